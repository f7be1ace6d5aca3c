"""Periods: a row is periodic exactly if some level of it has one letter alone."""

from returnrows.checks import LAST_LEVEL
from returnrows.descents import Descent
from returnrows.errors import TooMany
from returnrows.steps import step


def period(row):
    """Return the shortest word that a row is, again and again, or None."""
    descent = Descent(row.rules)
    number = _single(descent)
    if number is None:
        return None
    # All that a period spans is whole returns, so the shortest one stays the shortest from level to level.
    letters = [0]
    for above in reversed(range(number)):
        letters = step(descent.parts(above), letters)
    return letters


def is_periodic(row):
    """Tell whether a row is some word again and again."""
    return _single(Descent(row.rules)) is not None


def _single(descent):
    """Return the number of the first level with one letter alone, or None if there is none."""
    for number in range(LAST_LEVEL + 1):
        descent.check(number)
        if len(descent.words(number)) == 1:
            return number
        if descent.first_alike(number) < number:
            return None
    raise TooMany(LAST_LEVEL)
