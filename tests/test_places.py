"""Tests of the places: points 2 to 4 and the section on returnrows/places.py."""

import inspect
import time
import unittest
from math import isqrt

from returnrows import places
from returnrows.errors import InvalidLetter, InvalidNumber
from returnrows.places import count_to, letter_at, piece
from returnrows.rows import Row
from samples import FIB, RING, TWIN, TWO_LONG, Raising, grown

FAR = 10 ** 30
DOUBLING = [[0, 1], [0, 0]]
SAMPLES = [
    FIB, TWIN, DOUBLING, RING, TWO_LONG,
    [[0, 0]],
    [[0, 0, 0]],
    [[0, 1], [0, 2], [0]],
    [[0, 1, 2], [0, 2], [1]],
    [[0, 2, 1], [2, 0, 0], [1, 1, 2]],
    [[0, 1], [2], [3], [0]],
    [[0, 3], [2, 2], [1, 0], [1, 3]],
    [[0, 1, 0], [1, 0, 1]],
    # [[0, 1], [0, 2], [0]], two steps at once
    [[0, 1, 0, 2], [0, 1, 0], [0, 1]],
]


def fib_ones(place):
    """How many of so many first letters of the Fibonacci row are 1, by the golden section."""
    number = place + 1
    return 2 * place + 1 - (number + isqrt(5 * number * number)) // 2


def evil(number):
    """The parity of the binary ones of a number: the twin row's letter there."""
    return bin(number).count("1") % 2


class NearTest(unittest.TestCase):
    def test_letters(self):
        for rules in SAMPLES:
            with self.subTest(rules=rules):
                row = Row(rules)
                self.assertEqual([letter_at(row, place) for place in range(300)], grown(rules, 300))

    def test_counts(self):
        for rules in SAMPLES:
            with self.subTest(rules=rules):
                row = Row(rules)
                begin = grown(rules, 400)
                for letter in range(min(len(rules), 4)):
                    for place in range(0, 400, 7):
                        self.assertEqual(count_to(row, letter, place), begin[:place].count(letter))

    def test_counts_place_by_place(self):
        begin = grown(TWIN, 130)
        self.assertEqual([count_to(Row(TWIN), 1, place) for place in range(130)],
                         [begin[:place].count(1) for place in range(130)])

    def test_counts_of_all_letters_of_70_words(self):
        row = Row(RING)
        begin = grown(RING, 3000)
        for letter in range(70):
            self.assertEqual(count_to(row, letter, 3000), begin.count(letter))

    def test_pieces(self):
        for rules in SAMPLES:
            with self.subTest(rules=rules):
                row = Row(rules)
                begin = grown(rules, 700)
                for place in list(range(12)) + [99, 233, 256, 300]:
                    for length in (0, 1, 2, 3, 8, 55, 400):
                        self.assertEqual(piece(row, place, length), begin[place:place + length])

    def test_place_0(self):
        for rules in SAMPLES:
            row = Row(rules)
            self.assertEqual(letter_at(row, 0), 0)
            self.assertEqual([count_to(row, letter, 0) for letter in range(len(rules))], [0] * len(rules))
            self.assertEqual(piece(row, 0, 1), [0])

    def test_length_0(self):
        for rules in SAMPLES:
            row = Row(rules)
            for place in (0, 1, 2, 5, 100, FAR):
                self.assertEqual(piece(row, place, 0), [])

    def test_one_word(self):
        for rules in ([[0, 0]], [[0, 0, 0]]):
            row = Row(rules)
            self.assertEqual([letter_at(row, place) for place in (0, 1, 7, FAR)], [0] * 4)
            self.assertEqual([count_to(row, 0, place) for place in (0, 1, 7, FAR)], [0, 1, 7, FAR])
            self.assertEqual(piece(row, FAR, 3), [0, 0, 0])


class FarTest(unittest.TestCase):
    def test_fibonacci(self):
        row = Row(FIB)
        for place in [5, 10 ** 6] + [FAR - back for back in range(25)]:
            self.assertEqual(count_to(row, 1, place), fib_ones(place))
            self.assertEqual(count_to(row, 0, place), place - fib_ones(place))
            self.assertEqual(letter_at(row, place), fib_ones(place + 1) - fib_ones(place))

    def test_twin(self):
        row = Row(TWIN)
        for place in [2 ** 99, 2 ** 98 - 1] + [FAR - back for back in range(25)]:
            self.assertEqual(letter_at(row, place), evil(place))
            self.assertEqual(count_to(row, 1, place), place // 2 + (evil(place - 1) if place % 2 else 0))
        self.assertEqual(piece(row, FAR, 400), [evil(place) for place in range(FAR, FAR + 400)])

    def test_doubling(self):
        row = Row(DOUBLING)
        for place in [2 ** 99 - 1, 2 ** 98 - 1, FAR - 1, FAR, FAR + 1]:
            twos = 0
            while (place + 1) % 2 ** (twos + 1) == 0:
                twos += 1
            self.assertEqual(letter_at(row, place), twos % 2)

    def test_pieces_letters_and_counts_agree_far_out(self):
        for rules in SAMPLES:
            with self.subTest(rules=rules):
                row = Row(rules)
                for place in (FAR - 20, FAR):
                    told = piece(row, place, 20)
                    self.assertEqual(told[:5], [letter_at(row, place + more) for more in range(5)])
                    for letter in range(min(len(rules), 4)):
                        self.assertEqual(count_to(row, letter, place + 20) - count_to(row, letter, place),
                                         told.count(letter))

    def test_counts_add_up_to_the_place(self):
        for rules in SAMPLES:
            row = Row(rules)
            self.assertEqual(sum(count_to(row, letter, FAR) for letter in range(len(rules))), FAR)

    def test_a_row_is_the_row_of_the_words_of_its_letters(self):
        for rules in SAMPLES:
            with self.subTest(rules=rules):
                row = Row(rules)
                place = FAR // 3
                begin = sum(len(rules[letter]) * count_to(row, letter, place) for letter in range(len(rules)))
                words = [following for letter in piece(row, place, 50) for following in rules[letter]]
                self.assertEqual(piece(row, begin, len(words)), words)

    def test_longest_piece_at_the_farthest_place(self):
        for rules in SAMPLES:
            row = Row(rules)
            told = piece(row, FAR, 400)
            self.assertEqual(len(told), 400)
            self.assertEqual(told[399], letter_at(row, FAR + 399))
            self.assertEqual(told[200:], piece(row, FAR + 200, 200))

    def test_a_far_place_is_answered_promptly(self):
        for rules in (FIB, RING, TWO_LONG):
            row = Row(rules)
            before = time.perf_counter()
            letter_at(row, FAR)
            count_to(row, 1, FAR)
            piece(row, FAR, 400)
            self.assertLess(time.perf_counter() - before, 5)


class WrongArgumentsTest(Raising):
    def test_letter_at(self):
        for place in (-1, -2, -FAR):
            self.assert_error(InvalidNumber, place, letter_at, Row(FIB), place)

    def test_count_to(self):
        for letter in (-1, -2, 2, 3, FAR, -FAR):
            for place in (0, 5, FAR):
                self.assert_error(InvalidLetter, letter, count_to, Row(FIB), letter, place)
        for place in (-1, -2, -FAR):
            self.assert_error(InvalidNumber, place, count_to, Row(FIB), 0, place)

    def test_the_bounds_of_the_letters(self):
        self.assertEqual(count_to(Row(RING), 69, 5000), grown(RING, 5000).count(69))
        self.assert_error(InvalidLetter, 70, count_to, Row(RING), 70, 5000)
        self.assert_error(InvalidLetter, 1, count_to, Row([[0, 0]]), 1, 5000)

    def test_count_to_checks_the_letter_ahead_of_the_place(self):
        self.assert_error(InvalidLetter, 2, count_to, Row(FIB), 2, -1)
        self.assert_error(InvalidLetter, -3, count_to, Row(FIB), -3, -1)

    def test_piece(self):
        for number in (-1, -2, -FAR):
            self.assert_error(InvalidNumber, number, piece, Row(FIB), number, 0)
            self.assert_error(InvalidNumber, number, piece, Row(FIB), 0, number)
            self.assert_error(InvalidNumber, number, piece, Row(FIB), FAR, number)

    def test_piece_checks_the_place_ahead_of_the_length(self):
        self.assert_error(InvalidNumber, -2, piece, Row(FIB), -2, -1)
        self.assert_error(InvalidNumber, -1, piece, Row(FIB), -1, -2)

    def test_a_row_stays_as_it_is_behind_an_error(self):
        row = Row(FIB)
        self.assert_error(InvalidNumber, -1, letter_at, row, -1)
        self.assert_error(InvalidLetter, 9, count_to, row, 9, 1)
        self.assert_error(InvalidNumber, -1, piece, row, 1, -1)
        self.assertEqual(row.rules, FIB)
        self.assertEqual(letter_at(row, 5), 0)


class ArgumentsTest(unittest.TestCase):
    def test_by_name(self):
        row = Row(FIB)
        self.assertEqual(letter_at(place=5, row=row), letter_at(row, 5))
        self.assertEqual(count_to(place=8, letter=1, row=row), 3)
        self.assertEqual(piece(length=5, place=3, row=row), [0, 1, 0, 1, 0])

    def test_the_row_is_not_changed(self):
        row = Row(TWIN)
        letter_at(row, FAR)
        count_to(row, 1, FAR)
        piece(row, FAR, 400)
        self.assertEqual(row.rules, TWIN)

    def test_a_changed_list_of_the_caller_does_not_change_the_answers(self):
        rules = [[0, 1], [0]]
        row = Row(rules)
        rules[1].append(1)
        self.assertEqual(piece(row, 0, 300), grown(FIB, 300))
        self.assertEqual(count_to(row, 1, FAR), fib_ones(FAR))
        self.assertEqual(letter_at(row, 2), 0)

    def test_a_piece_is_a_new_list(self):
        row = Row(FIB)
        for place, length in ((0, 1), (0, 5), (3, 0), (FAR, 5)):
            first = piece(row, place, length)
            again = list(first)
            first.append(9)
            self.assertEqual(piece(row, place, length), again)

    def test_answers_are_plain_integers(self):
        row = Row([[0, 0]])
        for told in (letter_at(row, 0), letter_at(row, 7), count_to(row, 0, 0), count_to(row, 0, 1)):
            self.assertIs(type(told), int)
        self.assertIs(type(piece(row, 0, 4)), list)
        self.assertTrue(all(type(letter) is int for letter in piece(Row(TWIN), 0, 9)))

    def test_each_function_is_defined_in_places(self):
        for name, names in (("letter_at", ["row", "place"]), ("count_to", ["row", "letter", "place"]),
                            ("piece", ["row", "place", "length"])):
            function = getattr(places, name)
            self.assertEqual(function.__module__, "returnrows.places")
            self.assertEqual(list(inspect.signature(function).parameters), names)


if __name__ == "__main__":
    unittest.main()
