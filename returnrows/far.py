"""Far: the places of a row at which the letters of its levels begin, however far out."""

from returnrows.checks import check_level, check_number
from returnrows.descents import descent_to
from returnrows.steps import tables_beyond, tables_down, tables_of, way_to, worth


def return_place(row, number, index):
    """Return the place of a row at which the letter with an index of a level begins."""
    check_level(number)
    check_number(index)
    words, lengths = _level(row, number)
    counts = tables_beyond(words, [1] * len(words), index)
    passed, _ = way_to(words, counts, index)
    return worth(tables_of(words, lengths, len(counts)), passed)


def return_at(row, number, place):
    """Return the index and the letter of a level that stands for a place, and how far behind its begin this is."""
    check_level(number)
    check_number(place)
    words, lengths = _level(row, number)
    tables = tables_beyond(words, lengths, place)
    passed, letter = way_to(words, tables, place)
    index = worth(tables_of(words, [1] * len(words), len(tables)), passed)
    return index, letter, place - worth(tables, passed)


def _level(row, number):
    """Return the words of a level, and for how many letters of the row each of its letters stands."""
    words = row.rules
    descent = descent_to(words, number)
    lists = [descent.parts(above) for above in range(number)]
    return descent.words(number), tables_down(lists, len(words))[-1]
