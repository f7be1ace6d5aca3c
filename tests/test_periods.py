"""Tests of the periods: points 2, 6 and 7 and the section on returnrows/periods.py."""

import inspect
import itertools
import time
import unittest

import returnrows.periods
from returnrows.errors import NotMixed, TooMany
from returnrows.levels import level
from returnrows.periods import is_periodic, period
from returnrows.places import piece
from returnrows.rows import Row
from samples import (APERIODIC, FIB, MANY_RETURNS, PERIODIC, RING, RING_60, RING_61, TWIN, TWO_LONG, WIDE_AT_1,
                     WIDE_AT_2, Raising, chain, even_runs, grown, renamed, runs, twice)

FAR = 10 ** 30


def shortest(begin, longest):
    """The shortest word that the begin of a row is, again and again, among those up to a length, or None."""
    for length in range(1, longest + 1):
        if begin[length:] == begin[:-length]:
            return begin[:length]
    return None


class PeriodTest(unittest.TestCase):
    def test_known_periods(self):
        for rules, known in (
                ([[0, 0]], [0]),
                ([[0, 0, 0]], [0]),
                ([[0, 1, 0], [1, 0, 1]], [0, 1]),
                ([[0, 1], [0, 1]], [0, 1]),
                ([[0, 1, 0, 1], [0, 1]], [0, 1]),
                ([[0, 1, 2], [0, 1, 2], [0, 1, 2]], [0, 1, 2]),
                ([[0, 1], [2, 3], [0, 1], [2, 3]], [0, 1, 2, 3]),
                ([[0, 0, 1], [0, 0, 1]], [0, 0, 1]),
                ([[0, 0, 1], [0, 0, 2], [0, 0, 2]], [0, 0, 1, 0, 0, 1, 0, 0, 2]),
                (even_runs(5), [0, 0, 0, 0, 0, 1]),
        ):
            self.assertEqual(period(Row(rules)), known)
            self.assertIs(is_periodic(Row(rules)), True)

    def test_rows_that_are_not_periodic(self):
        for rules in APERIODIC + [twice(rules) for rules in APERIODIC] + [RING_60, chain(60), runs(30), runs(60)]:
            self.assertIsNone(period(Row(rules)))
            self.assertIs(is_periodic(Row(rules)), False)

    def test_all_small_rules(self):
        words = [list(word) for length in (1, 2, 3) for word in itertools.product(range(2), repeat=length)]
        small = [list(word) for length in (1, 2) for word in itertools.product(range(3), repeat=length)]
        told = {True: 0, False: 0}
        for rules in list(itertools.product(words, repeat=2)) + list(itertools.product(small, repeat=3)):
            rules = list(rules)
            if rules[0][0] != 0 or len(rules[0]) == 1:
                continue
            try:
                row = Row(rules)
            except NotMixed:
                continue
            known = shortest(grown(rules, 500), 60)
            told[known is not None] += 1
            self.assertEqual(period(row), known)
            self.assertIs(is_periodic(row), known is not None)
        self.assertGreater(min(told.values()), 10)

    def test_other_rules_of_periodic_rows(self):
        for rules in PERIODIC:
            known = period(Row(rules))
            self.assertEqual(period(Row(twice(rules))), known)
            names = [0] + list(range(len(rules) - 1, 0, -1))
            self.assertEqual(period(Row(renamed(rules, names))), [names[letter] for letter in known])

    def test_the_row_is_the_period_far_out(self):
        for rules in PERIODIC + [even_runs(40)]:
            known = period(Row(rules))
            begin = FAR - FAR % len(known)
            self.assertEqual(piece(Row(rules), begin, 3 * len(known)), known * 3)

    def test_periods_of_levels(self):
        for rules in PERIODIC + APERIODIC:
            for number in range(5):
                below = level(Row(rules), number)
                self.assertEqual(period(below), shortest(piece(below, 0, 400), 50))

    def test_periodic_as_late_as_at_level_60(self):
        # The level with the number many has one letter, the levels ahead of it have two.
        for many in (1, 2, 30, 58, 59, 60):
            self.assertEqual(period(Row(even_runs(many))), [0] * many + [1])
            self.assertIs(is_periodic(Row(even_runs(many))), True)


class ErrorsTest(Raising):
    def assert_too_many(self, value, rules):
        for function in (period, is_periodic):
            self.assert_error(TooMany, value, function, Row(rules))

    def test_too_many_letters_of_the_row_itself(self):
        for rules in (RING, RING_61, TWO_LONG, MANY_RETURNS, chain(61), [list(range(61))] * 61):
            self.assert_too_many(0, rules)

    def test_60_letters_are_not_too_many(self):
        self.assertEqual(period(Row([list(range(60))] * 60)), list(range(60)))
        self.assertIsNone(period(Row(RING_60)))

    def test_too_many_letters_of_a_level(self):
        self.assert_too_many(1, WIDE_AT_1)
        self.assert_too_many(2, WIDE_AT_2)

    def test_rules_that_do_not_come_again(self):
        for rules in (even_runs(61), even_runs(62), even_runs(100), runs(61), runs(100)):
            self.assert_too_many(60, rules)


class KindsTest(unittest.TestCase):
    def test_told_lists_may_be_changed(self):
        for rules in PERIODIC:
            row = Row(rules)
            told = period(row)
            known = list(told)
            told.append(7)
            told[0] = 5
            self.assertEqual(period(row), known)
            self.assertEqual(row.rules, rules)
            self.assertIs(type(told), list)
            self.assertTrue(all(type(letter) is int for letter in known))

    def test_what_is_asked_again_gives_the_same_answer(self):
        row, other = Row([[0, 1, 0], [1, 0, 1]]), Row(TWIN)
        self.assertEqual([period(row), period(other), period(row), is_periodic(row), is_periodic(other)],
                         [[0, 1], None, [0, 1], True, False])
        self.assertRaises(TooMany, period, Row(RING))
        self.assertEqual(period(row), [0, 1])

    def test_by_name(self):
        for name in ("period", "is_periodic"):
            function = getattr(returnrows.periods, name)
            self.assertEqual(function(row=Row(FIB)), function(Row(FIB)))
            self.assertEqual(function.__module__, "returnrows.periods")
            self.assertEqual(list(inspect.signature(function).parameters), ["row"])

    def test_answers_come_promptly(self):
        for rules in (RING_60, chain(60), even_runs(60), [list(range(60))] * 60, APERIODIC[8]):
            before = time.perf_counter()
            period(Row(rules))
            is_periodic(Row(rules))
            self.assertLess(time.perf_counter() - before, 3)


if __name__ == "__main__":
    unittest.main()
