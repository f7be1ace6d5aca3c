"""Returns: the words by which a row comes back to the letter 0, and the row of these."""

from returnrows.rows import Row
from returnrows.splits import found_returns


def returns(row):
    """Return the list of the returns of a row, in the sequence in which they come first."""
    found, _ = found_returns(row.rules)
    return [list(part) for part in found]


def return_rules(row):
    """Return the rules of returns of a row."""
    _, rules = found_returns(row.rules)
    return rules


def return_row(row):
    """Return the row of returns of a row."""
    return Row(return_rules(row))
