"""Levels: each one is the row of returns of the one before, and they come again."""

from returnrows.checks import check_level
from returnrows.descents import Descent, descent_to, ladder_of
from returnrows.rows import Row


def level(row, number):
    """Return the level of a row with a number."""
    check_level(number)
    return Row(descent_to(row.rules, number).words(number))


def ladder(row):
    """Return the tuple (ahead, round) of the levels ahead of the first that comes again, and of those that do."""
    return ladder_of(Descent(row.rules))


def widths(row):
    """Return the list of how many letters the levels have, each of the ladder once."""
    descent = Descent(row.rules)
    many = sum(ladder_of(descent))
    return [len(descent.words(number)) for number in range(many)]
