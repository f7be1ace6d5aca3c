"""Readings: a row is read from the text of its words."""

from returnrows.errors import RowError, Unreadable
from returnrows.rows import Row


def read_row(text):
    """Return the row with a text."""
    words = [word.split(" ") for word in text.split(", ")]
    # A row has no letters but one for each word, so no other figures need to be read as a number.
    letters = {str(letter): letter for letter in range(len(words))}
    for word in words:
        for figures in word:
            if figures not in letters:
                raise Unreadable(text)
    rules = [[letters[figures] for figures in word] for word in words]
    try:
        return Row(rules)
    except RowError:
        raise Unreadable(text) from None
