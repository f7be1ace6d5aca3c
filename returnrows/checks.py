"""Checks of the numbers that several functions are given."""

from returnrows.errors import InvalidNumber

LAST_LEVEL = 60


def check_number(number):
    """Raise an error if a number is negative."""
    if number < 0:
        raise InvalidNumber(number)


def check_level(number):
    """Raise an error if there is no level with a number."""
    if number < 0 or number > LAST_LEVEL:
        raise InvalidNumber(number)
