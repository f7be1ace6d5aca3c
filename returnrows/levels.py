"""Levels: each one is the row of returns of the one before, and they come again."""

from returnrows.descents import LAST_LEVEL, Descent, ladder_of
from returnrows.errors import InvalidNumber
from returnrows.rows import Row


def level(row, number):
    """Return the level of a row with a number."""
    if number < 0 or number > LAST_LEVEL:
        raise InvalidNumber(number)
    descent = Descent(row.rules)
    for reached in range(number + 1):
        descent.check(reached)
    return Row(descent.words(number))


def ladder(row):
    """Return the tuple (ahead, round) of the levels ahead of the first that comes again, and of those that do."""
    return ladder_of(Descent(row.rules))


def widths(row):
    """Return the list of how many letters the levels have, each of the ladder once."""
    descent = Descent(row.rules)
    many = sum(ladder_of(descent))
    return [len(descent.words(number)) for number in range(many)]
