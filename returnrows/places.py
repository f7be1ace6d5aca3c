"""Places: letters, counts and pieces of a row, however far out."""

from returnrows.checks import check_number
from returnrows.errors import InvalidLetter
from returnrows.steps import step, tables_beyond, tables_of, way_to, worth


def letter_at(row, place):
    """Return the letter at a place of a row."""
    check_number(place)
    words = row.rules
    _, letter = way_to(words, _lengths(words, place), place)
    return letter


def count_to(row, letter, place):
    """Return how often a letter stands at lesser places of a row."""
    words = row.rules
    if letter < 0 or letter >= len(words):
        raise InvalidLetter(letter)
    check_number(place)
    lengths = _lengths(words, place)
    once = [0] * len(words)
    once[letter] = 1
    passed, _ = way_to(words, lengths, place)
    return worth(tables_of(words, once, len(lengths)), passed)


def piece(row, place, length):
    """Return the list of so many letters of a row from a place on."""
    check_number(place)
    check_number(length)
    words = row.rules
    lengths = _lengths(words, place + length)
    letters, ahead = _cut([0], lengths[-1], place, length)
    for table in reversed(lengths[:-1]):
        letters, ahead = _cut(step(words, letters), table, ahead, length)
    return letters


def _lengths(words, place):
    """Return the tables of the lengths of words, until that of the letter 0 reaches beyond the place."""
    return tables_beyond(words, [1] * len(words), place)


def _cut(letters, table, ahead, length):
    """Return the letters whose words have a part in a piece, and how far behind their begin it starts.

    The piece starts so far ahead in the words of all the letters, and has this length.
    """
    kept = []
    start = ahead
    begin = 0
    for letter in letters:
        end = begin + table[letter]
        if begin < ahead + length and end > ahead:
            if len(kept) == 0:
                start = ahead - begin
            kept.append(letter)
        begin = end
    return kept, start
