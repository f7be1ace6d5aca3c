"""Rules for the tests, plain ways to grow rows from them, and what several tests share."""

import unittest

FIB = [[0, 1], [0]]
TWIN = [[0, 1], [1, 0]]
TRIB = [[0, 1], [0, 2], [0]]
RING = [[0, 1]] + [[(letter + 1) % 70] for letter in range(1, 70)]
RING_60 = [[0, 1]] + [[(letter + 1) % 60] for letter in range(1, 60)]
RING_61 = [[0, 1]] + [[(letter + 1) % 61] for letter in range(1, 61)]
TWO_LONG = [[0, 1]] + [[(letter + 1) % 70] for letter in range(1, 35)] + [[36, 0]] + \
    [[(letter + 1) % 70] for letter in range(36, 70)]
# 4831 returns
MANY_RETURNS = [[0, 1]] + [[letter + 1] for letter in range(1, 69)] + [[1, 0]]
# Level 1 has 58 letters, level 2 has 65.
WIDE_AT_2 = [[0, 9, 7], [8, 5, 9], [4, 8, 5, 6, 2], [8, 0, 4, 7, 0], [9, 1, 2, 8], [10, 2], [10, 3, 8, 6],
             [3, 4, 10, 10, 8], [2, 2], [8, 6, 0, 6, 0], [8, 7]]
# 24 letters, but 553 returns.
WIDE_AT_1 = [[0, 1]] + [[letter + 1] for letter in range(1, 23)] + [[1, 0]]
APERIODIC = [
    FIB, TWIN, TRIB,
    [[0, 1], [0, 0]],
    [[0, 2], [0], [0, 1]],
    [[0, 1, 2], [0, 2], [1]],
    [[0, 2, 1], [2, 0, 0], [1, 1, 2]],
    [[0, 1], [2], [3], [0]],
    [[0, 3], [2, 2], [1, 0], [1, 3]],
    [[0, 1, 1], [1, 0, 2], [1, 0]],
    [[0, 0, 1], [0, 0]],
    [[0, 1], [1, 2], [2, 3], [3, 0]],
    [[0, 2], [2], [0, 1]],
]
PERIODIC = [
    [[0, 0]],
    [[0, 0, 0]],
    [[0, 1, 0], [1, 0, 1]],
    [[0, 1], [0, 1]],
    [[0, 1, 2], [0, 1, 2], [0, 1, 2]],
    [[0, 1], [2, 3], [0, 1], [2, 3]],
    [[0, 0, 1], [0, 0, 1]],
    [[0, 0, 1], [0, 0, 2], [0, 0, 2]],
]


def twice(rules):
    """The rules of two steps at once."""
    return [[following for letter in word for following in rules[letter]] for word in rules]


def renamed(rules, names):
    """The rules with other names for the letters."""
    words = [None] * len(rules)
    for letter, word in enumerate(rules):
        words[names[letter]] = [names[following] for following in word]
    return words


def grown(rules, length):
    """The begin of a row, read off letter by letter."""
    begin = list(rules[0])
    place = 1
    while len(begin) < length:
        begin.extend(rules[begin[place]])
        place += 1
    return begin[:length]


def cut(begin):
    """The unlike returns in the begin of a row, and the begin of the row of their numbers."""
    zeros = [place for place, letter in enumerate(begin) if letter == 0]
    numbers = {}
    row = []
    for start, end in zip(zeros, zeros[1:]):
        row.append(numbers.setdefault(tuple(begin[start:end]), len(numbers)))
    return [list(part) for part in numbers], row


def chain(letters):
    """Rules with a row like Fibonacci's, whose last letter comes first at an exponentially far place."""
    return [[0, 1], [0, 2]] + [[letter + 1] for letter in range(2, letters - 1)] + [[0]]


def runs(many):
    """The rules of a row of runs of 0 that get shorter by one from level to level."""
    return [[0] * many + [1], [0]]


def even_runs(many):
    """The rules of a periodic row: so many letters 0 and a 1, again and again."""
    return [[0] * many + [1], [0] * many + [1]]


def fibonacci(number):
    """The Fibonacci number with a number: 0, 1, 1, 2 and so on."""
    here, behind = 0, 1
    for _ in range(number):
        here, behind = behind, here + behind
    return here


class Raising(unittest.TestCase):
    """Tests of calls that raise an error."""

    def assert_error(self, error, value, function, *arguments):
        with self.assertRaises(error) as caught:
            function(*arguments)
        self.assertIs(type(caught.exception), error)
        self.assertIs(type(caught.exception.value), int)
        self.assertEqual(caught.exception.value, value)
