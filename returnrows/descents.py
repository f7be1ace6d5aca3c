"""Descents: the levels of a row, one below the other."""

from returnrows.checks import LAST_LEVEL
from returnrows.errors import TooMany
from returnrows.splits import found_returns

MOST_LETTERS = 60


class Descent:
    """The levels of the row of some words, worked out as far as they are asked for."""

    def __init__(self, words):
        self._levels = []
        self._lists = []
        self._firsts = []
        self._numbers = {}
        self._add(words)

    def words(self, number):
        """Return the words of a level."""
        self._go_to(number)
        return self._levels[number]

    def parts(self, number):
        """Return the returns of a level, as tuples."""
        self._go_to(number + 1)
        return self._lists[number]

    def first_alike(self, number):
        """Return the number of the first level with the same rules as a level."""
        self._go_to(number)
        return self._firsts[number]

    def is_too_wide(self, number):
        """Tell whether a level has too many letters."""
        return len(self.words(number)) > MOST_LETTERS

    def check(self, number):
        """Raise an error if a level has too many letters."""
        if self.is_too_wide(number):
            raise TooMany(number)

    def _go_to(self, number):
        """Work out all levels down to one."""
        while len(self._levels) <= number:
            first = self._firsts[-1]
            # Below rules that came again all levels come again.
            if first < len(self._levels) - 1:
                self._lists.append(self._lists[first])
                self._add(self._levels[first + 1])
            else:
                found, rules = found_returns(self._levels[-1])
                self._lists.append(found)
                self._add(rules)

    def _add(self, words):
        """Add the words of the next level."""
        key = tuple([tuple(word) for word in words])
        self._firsts.append(self._numbers.setdefault(key, len(self._levels)))
        self._levels.append(words)


def descent_to(words, number):
    """Return the descent of the row of some words, once no level down to a number has too many letters."""
    descent = Descent(words)
    for reached in range(number + 1):
        descent.check(reached)
    return descent


def ladder_of(descent):
    """Return the number of the first level whose rules come again, and behind how many levels they do so."""
    for number in range(LAST_LEVEL + 1):
        descent.check(number)
        first = descent.first_alike(number)
        if first < number:
            return first, number - first
    raise TooMany(LAST_LEVEL)
