"""Splits: a row is cut ahead of each letter 0, and its parts are the returns."""

from returnrows.steps import step


def found_returns(words):
    """Return the returns of the row of the words, in the sequence in which they come first, and their rules.

    A return that comes first somewhere does so in the word of a return that came first ahead of it.
    So the words of the returns, taken in their sequence, show all others in theirs.
    """
    found = [_first_return(words)]
    numbers = {found[0]: 0}
    rules = []
    while len(rules) < len(found):
        parts = _parts(step(words, found[len(rules)]))
        for part in parts:
            if part not in numbers:
                numbers[part] = len(found)
                found.append(part)
        rules.append([numbers[part] for part in parts])
    return found, rules


def _first_return(words):
    """Return the letters of a row ahead of the second 0."""
    letters = words[0]
    while letters.count(0) < 2:
        letters = step(words, letters)
    return _parts(letters)[0]


def _parts(letters):
    """Return the tuples of letters from each 0 up to ahead of the next 0, or to the end."""
    begins = [place for place, letter in enumerate(letters) if letter == 0]
    ends = begins[1:] + [len(letters)]
    return [tuple(letters[begin:end]) for begin, end in zip(begins, ends)]
