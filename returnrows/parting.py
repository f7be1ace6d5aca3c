"""Parting: two rows are equal at all places, or part at a first one."""

from returnrows.checks import LAST_LEVEL
from returnrows.descents import Descent, ladder_of
from returnrows.errors import TooMany
from returnrows.joints import first_parting


def parting(row, other):
    """Return the first place at which two rows have unlike letters, with these letters, or None."""
    first, second = Descent(row.rules), Descent(other.rules)
    number = _unlike_lists(first, 0, second, 0)
    if number is None:
        return None
    return first_parting(first, second, number)


def are_equal(row, other):
    """Tell whether two rows are equal at all places."""
    return _unlike_lists(Descent(row.rules), 0, Descent(other.rules), 0) is None


def alike(row, other):
    """Tell whether two rows are equal when the letters of each are renamed in their sequence."""
    first, second = Descent(_renamed(row.rules)), Descent(_renamed(other.rules))
    return _unlike_lists(first, 0, second, 0) is None


def kin(row, other):
    """Return the first pair of numbers of levels at which two rows are equal at all places, or None."""
    first, second = Descent(row.rules), Descent(other.rules)
    many = sum(ladder_of(first))
    other_many = sum(ladder_of(second))
    for both in range(many + other_many - 1):
        for number in range(max(0, both - other_many + 1), min(both + 1, many)):
            if _unlike_lists(first, number, second, both - number) is None:
                return number, both - number
    return None


def _unlike_lists(first, start, second, other_start):
    """Return how many levels below two starts the lists of returns are unlike, or None if they never are."""
    pairs = {}
    for number in range(LAST_LEVEL + 1):
        here, there = start + number, other_start + number
        if first.is_too_wide(here) or second.is_too_wide(there):
            raise TooMany(number)
        pair = first.first_alike(here), second.first_alike(there)
        if pair in pairs:
            return None
        pairs[pair] = True
        if first.parts(here) != second.parts(there):
            return number
    raise TooMany(LAST_LEVEL)


def _renamed(words):
    """Return the words with their letters renamed 0, 1, 2 and so on, in the sequence in which they come first.

    A letter that comes first somewhere does so in the word of a letter that came first ahead of it.
    """
    letters = [0]
    names = {0: 0}
    renamed = []
    while len(renamed) < len(letters):
        word = words[letters[len(renamed)]]
        for letter in word:
            if letter not in names:
                names[letter] = len(letters)
                letters.append(letter)
        renamed.append([names[letter] for letter in word])
    return renamed
