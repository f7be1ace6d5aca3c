"""Tests of the far places: points 2, 3, 5 and 6 and the section on returnrows/far.py."""

import inspect
import time
import unittest
from bisect import bisect_right
from math import isqrt

import returnrows.far
from returnrows.errors import InvalidNumber, TooMany
from returnrows.far import return_at, return_place
from returnrows.levels import level
from returnrows.places import count_to, letter_at, piece
from returnrows.returns import returns
from returnrows.rows import Row
from samples import (APERIODIC, FIB, MANY_RETURNS, PERIODIC, RING, RING_60, RING_61, TWIN, TWO_LONG, WIDE_AT_1,
                     WIDE_AT_2, Raising, chain, even_runs, grown, runs, twice)

FAR = 10 ** 30
SMALL = APERIODIC + PERIODIC
FAR_NUMBERS = (10 ** 12, 2 ** 99, 3 ** 62, FAR // 7, FAR - 2, FAR - 1, FAR)
# Rows whose words grow slowly, or whose levels come again late or never.
SLOW = [RING_60, chain(60), runs(60), runs(100), even_runs(59)]


def cases():
    """Rows, levels of each, and far numbers: fewer of them where a row is slow."""
    for rules in SMALL:
        yield Row(rules), (0, 1, 2, 3, 4, 17, 60), FAR_NUMBERS
    for rules in SLOW:
        yield Row(rules), (0, 1, 2, 60), (2 ** 99, FAR)


def cut_to_level(rules, number, length):
    """The letters of a level and the places where they begin, read off so many letters of the row.

    The places are one more than the letters: behind the last letter told stands one that is not whole.
    """
    letters, begins = grown(rules, length), list(range(length + 1))
    for _ in range(number):
        zeros = [place for place, letter in enumerate(letters) if letter == 0]
        numbers = {}
        letters = [numbers.setdefault(tuple(letters[start:end]), len(numbers))
                   for start, end in zip(zeros, zeros[1:])]
        begins = [begins[zero] for zero in zeros]
    return letters, begins


def fib_zero(index):
    """The place of a letter 0 of the Fibonacci row, by the golden section."""
    number = index + 1
    return (number + isqrt(5 * number * number)) // 2 - 1


def evil(number):
    """The parity of the binary ones of a number."""
    return bin(number).count("1") % 2


class WrittenOutTest(unittest.TestCase):
    def assert_near(self, rules, number, many=12):
        row = Row(rules)
        length = 200
        letters, begins = cut_to_level(rules, number, length)
        while len(letters) < many:
            length *= 2
            letters, begins = cut_to_level(rules, number, length)
        for index in range(many + 1):
            self.assertEqual(return_place(row, number, index), begins[index])
        near = set(range(120)) | {begin + more for begin in begins[1:many] for more in (-1, 0, 1)}
        for place in sorted(place for place in near if place < begins[many]):
            index = bisect_right(begins, place) - 1
            self.assertEqual(return_at(row, number, place), (index, letters[index], place - begins[index]))

    def test_small_rules_down_to_level_5(self):
        for rules in SMALL:
            for number in range(6):
                with self.subTest(rules=rules, number=number):
                    self.assert_near(rules, number, 60 if number < 3 else 12)

    def test_two_steps_at_once(self):
        for rules in SMALL:
            for number in (0, 1, 4):
                with self.subTest(rules=rules, number=number):
                    self.assert_near(twice(rules), number, 60 if number < 3 else 12)

    def test_rules_of_other_kinds(self):
        for rules in (RING_60, chain(12), runs(9), even_runs(7), [[0] * 5]):
            for number in range(5):
                with self.subTest(rules=rules, number=number):
                    self.assert_near(rules, number)
        for number in (0, 1):
            self.assert_near(WIDE_AT_2, number, 60)

    def test_deep_levels(self):
        for rules, number in ((FIB, 12), (TWIN, 8), (APERIODIC[9], 6), (runs(30), 29), (even_runs(12), 60),
                              ([[0, 0]], 60)):
            with self.subTest(rules=rules, number=number):
                self.assert_near(rules, number)

    def test_the_begin_of_a_row_is_the_begin_of_each_level(self):
        for rules in SMALL + SLOW:
            row = Row(rules)
            for number in (0, 1, 2, 3, 4, 5, 30, 59, 60):
                self.assertEqual(return_place(row, number, 0), 0)
                self.assertEqual(return_at(row, number, 0), (0, 0, 0))


class FarNumbersTest(unittest.TestCase):
    def test_level_0_is_the_place_itself(self):
        for rules in SMALL + SLOW + [WIDE_AT_1]:
            row = Row(rules)
            for place in (0, 1, 2, 7) + FAR_NUMBERS:
                self.assertEqual(return_place(row, 0, place), place)
                self.assertEqual(return_at(row, 0, place), (place, letter_at(row, place), 0))

    def test_fibonacci_by_the_golden_section(self):
        row = Row(FIB)
        for index in (0, 1, 5, 10 ** 6) + FAR_NUMBERS:
            place = index
            for number in range(1, 61):
                # Each level is the row itself, and its letters stand for the letters 0 of the level above.
                place = fib_zero(place)
                self.assertEqual(return_place(row, number, index), place)
                self.assertEqual(return_at(row, number, place), (index, letter_at(row, index), 0))

    def test_the_returns_of_the_twin_row_begin_at_evil_numbers(self):
        row = Row(TWIN)
        for index in range(200):
            self.assertEqual(return_place(row, 1, index), 2 * index + evil(index))
        for index in FAR_NUMBERS:
            begin, end = 2 * index + evil(index), 2 * index + 2 + evil(index + 1)
            self.assertEqual(return_place(row, 1, index), begin)
            letter = 3 - (end - begin)
            for offset in range(end - begin):
                self.assertEqual(return_at(row, 1, begin + offset), (index, letter, offset))

    def test_rows_of_one_letter(self):
        for rules in ([[0, 0]], [[0, 0, 0]], [[0] * 9]):
            row = Row(rules)
            for number in (0, 1, 2, 59, 60):
                for place in (0, 1, 5) + FAR_NUMBERS:
                    self.assertEqual(return_place(row, number, place), place)
                    self.assertEqual(return_at(row, number, place), (place, 0, 0))

    def test_levels_of_one_letter(self):
        for rules, first, length in (([[0, 1, 0], [1, 0, 1]], 1, 2), ([[0, 1], [2, 3], [0, 1], [2, 3]], 1, 4),
                                     ([[0, 0, 1], [0, 0, 1]], 2, 3), (even_runs(59), 59, 60)):
            row = Row(rules)
            for number in sorted({first, 59, 60}):
                self.assertEqual(len(level(row, number).rules), 1)
                for index in (0, 1, 5) + FAR_NUMBERS:
                    self.assertEqual(return_place(row, number, index), length * index)
                    self.assertEqual(return_at(row, number, length * index + length - 1), (index, 0, length - 1))
                    self.assertEqual(return_at(row, number, index), (index // length, 0, index % length))

    def test_back_and_forth(self):
        for row, numbers, places in cases():
            for number in numbers:
                below = level(row, number)
                for place in places:
                    index, letter, offset = return_at(row, number, place)
                    begin = return_place(row, number, index)
                    self.assertEqual(begin + offset, place)
                    self.assertGreaterEqual(offset, 0)
                    self.assertLess(place, return_place(row, number, index + 1))
                    self.assertEqual(letter, letter_at(below, index))
                    self.assertEqual(return_at(row, number, begin), (index, letter, 0))

    def test_forth_and_back(self):
        for row, numbers, indices in cases():
            for number in numbers:
                for index in indices:
                    begin, end = return_place(row, number, index), return_place(row, number, index + 1)
                    self.assertEqual(return_at(row, number, begin)[::2], (index, 0))
                    self.assertEqual(return_at(row, number, end - 1)[::2], (index, end - 1 - begin))
                    self.assertEqual(return_at(row, number, end)[::2], (index + 1, 0))

    def test_each_letter_of_level_1_stands_for_its_return(self):
        for row, _, indices in cases():
            told = returns(row)
            for index in indices:
                begin = return_place(row, 1, index)
                part = told[return_at(row, 1, begin)[1]]
                self.assertEqual(piece(row, begin, len(part) + 1), part + [0])
                self.assertEqual(count_to(row, 0, begin), index)

    def test_level_by_level_and_several_at_once(self):
        for row, _, places in cases():
            for ahead, further in ((1, 1), (1, 2), (3, 1), (1, 59), (30, 30), (0, 5), (5, 0)):
                below = level(row, ahead)
                number = ahead + further
                for far in (5, 12) + places[-2:]:
                    self.assertEqual(return_place(row, number, far),
                                     return_place(row, ahead, return_place(below, further, far)))
                    index, _, offset = return_at(row, ahead, far)
                    under, letter, more = return_at(below, further, index)
                    offset += return_place(row, ahead, index) - return_place(row, ahead, index - more)
                    self.assertEqual(return_at(row, number, far), (under, letter, offset))

    def test_a_level_begins_where_the_letters_ahead_end(self):
        for rules in SMALL:
            row = Row(rules)
            for number in range(5):
                below = level(row, number)
                firsts = {}
                for index in range(300):
                    firsts.setdefault(letter_at(below, index), index)
                ahead = sum(count_to(below, letter, FAR) * (return_place(row, number, index + 1) -
                                                            return_place(row, number, index))
                            for letter, index in firsts.items())
                self.assertEqual(len(firsts), len(below.rules))
                self.assertEqual(return_place(row, number, FAR), ahead)


class WrongNumbersTest(Raising):
    def test_levels_that_are_none(self):
        for function in (return_place, return_at):
            for number in (-1, -2, 61, 62, FAR, -FAR):
                for rules in (FIB, TWIN, [[0, 0]]):
                    for far in (0, 5, FAR):
                        self.assert_error(InvalidNumber, number, function, Row(rules), number, far)

    def test_negative_indices_and_places(self):
        for function in (return_place, return_at):
            for far in (-1, -2, -FAR):
                for rules in (FIB, TWIN, [[0, 0]]):
                    for number in (0, 1, 60):
                        self.assert_error(InvalidNumber, far, function, Row(rules), number, far)

    def test_too_many_letters_of_the_row_itself(self):
        for function in (return_place, return_at):
            for rules in (RING, RING_61, TWO_LONG, MANY_RETURNS, chain(61), chain(70)):
                for number in (0, 1, 60):
                    for far in (0, 5, FAR):
                        self.assert_error(TooMany, 0, function, Row(rules), number, far)

    def test_too_many_letters_of_a_level(self):
        for function in (return_place, return_at):
            for number in (1, 2, 60):
                for far in (0, 5, FAR):
                    self.assert_error(TooMany, 1, function, Row(WIDE_AT_1), number, far)
            for number in (2, 3, 60):
                self.assert_error(TooMany, 2, function, Row(WIDE_AT_2), number, FAR)
        for rules, last in ((WIDE_AT_1, 0), (WIDE_AT_2, 1)):
            for number in range(last + 1):
                begin = return_place(Row(rules), number, FAR)
                self.assertEqual(return_at(Row(rules), number, begin)[::2], (FAR, 0))

    def test_levels_need_not_come_again(self):
        for rules in (runs(100), even_runs(100)):
            begin = return_place(Row(rules), 60, FAR)
            self.assertEqual(return_at(Row(rules), 60, begin)[::2], (FAR, 0))

    def test_the_errors_come_in_their_sequence(self):
        for function in (return_place, return_at):
            for rules in (FIB, RING, WIDE_AT_1, WIDE_AT_2):
                for number in (-3, 61, FAR, -FAR):
                    self.assert_error(InvalidNumber, number, function, Row(rules), number, -1)
                    self.assert_error(InvalidNumber, number, function, Row(rules), number, -FAR)
                for number in (0, 1, 2, 60):
                    self.assert_error(InvalidNumber, -7, function, Row(rules), number, -7)

    def test_errors_by_name(self):
        ring = Row(RING)
        for function, name in ((return_place, "index"), (return_at, "place")):
            self.assert_error(InvalidNumber, 61, lambda: function(**{name: -1, "number": 61, "row": ring}))
            self.assert_error(InvalidNumber, -1, lambda: function(**{name: -1, "number": 60, "row": ring}))
            self.assert_error(TooMany, 0, lambda: function(**{name: 1, "number": 60, "row": ring}))


class KindsTest(Raising):
    def test_kinds_of_answers(self):
        for rules in (FIB, TWIN, [[0, 0]], [[0, 1], [0, 1]]):
            for number in (0, 1, 2, 60):
                for far in (0, 1, FAR):
                    self.assertIs(type(return_place(Row(rules), number, far)), int)
                    told = return_at(Row(rules), number, far)
                    self.assertIs(type(told), tuple)
                    self.assertEqual([type(part) for part in told], [int, int, int])

    def test_by_name(self):
        row = Row(FIB)
        self.assertEqual(return_place(index=5, number=1, row=row), 8)
        self.assertEqual(return_at(place=6, number=1, row=row), (3, 0, 1))
        for name, last in (("return_place", "index"), ("return_at", "place")):
            function = getattr(returnrows.far, name)
            self.assertEqual(function.__module__, "returnrows.far")
            self.assertEqual(list(inspect.signature(function).parameters), ["row", "number", last])

    def test_the_row_is_not_changed(self):
        row = Row(TWIN)
        first = [return_place(row, 4, FAR), return_at(row, 4, FAR)]
        self.assert_error(InvalidNumber, 61, return_place, row, 61, 0)
        self.assert_error(InvalidNumber, -1, return_at, row, 4, -1)
        self.assertEqual(row.rules, TWIN)
        self.assertEqual([return_place(row, 4, FAR), return_at(row, 4, FAR)], first)

    def test_answers_come_promptly(self):
        for rules in (FIB, TWIN, RING_60, chain(60), APERIODIC[8], runs(60), runs(100), even_runs(59)):
            row = Row(rules)
            before = time.perf_counter()
            for number in (0, 1, 60):
                return_place(row, number, FAR)
                return_at(row, number, FAR)
            self.assertLess(time.perf_counter() - before, 5)


if __name__ == "__main__":
    unittest.main()
