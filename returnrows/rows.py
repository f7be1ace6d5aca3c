"""Rows: endless rows of letters, each told by its rules."""

from returnrows.errors import InvalidLetter, InvalidNumber, InvalidRules, NotMixed


class Row:
    """The endless row of a list of words; it never changes."""

    def __init__(self, rules):
        _check(rules)
        self._words = tuple([tuple(word) for word in rules])

    @property
    def rules(self):
        """A new list of the words, each of them new."""
        return [list(word) for word in self._words]

    def __eq__(self, other):
        if not isinstance(other, Row):
            return False
        return self._words == other._words


def _check(rules):
    """Raise the first error of the rules, in the sequence in which the document lists them."""
    if len(rules) == 0:
        raise InvalidNumber(0)
    for index, word in enumerate(rules):
        if len(word) == 0:
            raise InvalidRules(index)
    for word in rules:
        for letter in word:
            if letter < 0 or letter >= len(rules):
                raise InvalidLetter(letter)
    if rules[0][0] != 0 or len(rules[0]) == 1:
        raise InvalidRules(0)
    if not _are_mixed(rules):
        raise NotMixed(0)


def _are_mixed(words):
    """Tell whether each letter leads to all letters behind the same number of steps.

    The word of 0 holds 0, so a way over 0 can be made longer by any number of steps.
    It is therefore enough that 0 leads to each letter and each letter leads to 0.
    """
    return all(_reached(words)) and all(_reached(_turned(words)))


def _reached(links):
    """Return, for each letter, whether the links lead from 0 to it."""
    known = [False] * len(links)
    known[0] = True
    waiting = [0]
    while len(waiting) > 0:
        holder = waiting.pop()
        for letter in links[holder]:
            if not known[letter]:
                known[letter] = True
                waiting.append(letter)
    return known


def _turned(words):
    """Return, for each letter, the letters in whose words it stands."""
    links = [[] for word in words]
    for holder, word in enumerate(words):
        for letter in word:
            links[letter].append(holder)
    return links
