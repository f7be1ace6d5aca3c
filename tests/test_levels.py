"""Tests of the levels: points 2, 5, 6 and 7 and the section on returnrows/levels.py."""

import copy
import inspect
import time
import unittest

import returnrows.levels
from returnrows.errors import InvalidNumber, TooMany
from returnrows.levels import ladder, level, widths
from returnrows.returns import return_row, return_rules
from returnrows.rows import Row
from samples import (APERIODIC, FIB, MANY_RETURNS, PERIODIC, RING, RING_60, RING_61, TRIB, TWIN, TWO_LONG, WIDE_AT_1,
                     WIDE_AT_2, Raising, chain, even_runs, renamed, runs, twice)

FAR = 10 ** 30
SMALL = APERIODIC + PERIODIC


def levels_of(rules, many):
    """The rules of so many levels, from the level 0 on."""
    told = [rules]
    while len(told) < many:
        told.append(return_rules(Row(told[-1])))
    return told


def known_ladder(rules):
    """The ladder of rules, by comparing each level with all levels ahead of it."""
    told = [rules]
    while told.index(told[-1]) == len(told) - 1:
        told.append(return_rules(Row(told[-1])))
    ahead = told.index(told[-1])
    return ahead, len(told) - 1 - ahead


class LevelTest(Raising):
    def test_the_level_0_is_the_row(self):
        for rules in SMALL + [RING_60, runs(60)]:
            self.assertEqual(level(Row(rules), 0), Row(rules))
            self.assertEqual(level(Row(rules), 0).rules, rules)

    def test_each_next_level_is_the_row_of_returns(self):
        for rules in SMALL + [twice(rules) for rules in SMALL] + [RING_60, chain(60), runs(9)]:
            with self.subTest(rules=rules):
                row = Row(rules)
                for number, words in enumerate(levels_of(rules, 12)):
                    told = level(row, number)
                    self.assertIs(type(told), Row)
                    self.assertEqual(told.rules, words)
                    self.assertEqual(level(row, number + 1), return_row(told))

    def test_all_levels_down_to_60(self):
        for rules in (TWIN, APERIODIC[9], APERIODIC[8], runs(7), runs(100), even_runs(59)):
            row = Row(rules)
            self.assertEqual([level(row, number).rules for number in range(61)], levels_of(rules, 61))

    def test_levels_come_again(self):
        row = Row(APERIODIC[9])
        for number in range(1, 57):
            self.assertEqual(level(row, number), level(row, number + 4))
        self.assertNotEqual(level(row, 1), level(row, 2))

    def test_levels_of_levels(self):
        row = Row(APERIODIC[8])
        for number in range(5):
            for further in range(5):
                self.assertEqual(level(level(row, number), further), level(row, number + further))

    def test_a_row_of_two_steps_at_once(self):
        for rules in SMALL:
            for number in range(6):
                self.assertEqual(level(Row(twice(rules)), number).rules, twice(level(Row(rules), number).rules))

    def test_wrong_numbers(self):
        for number in (-1, -2, 61, 62, FAR, -FAR):
            for rules in (FIB, TWIN, [[0, 0]]):
                self.assert_error(InvalidNumber, number, level, Row(rules), number)

    def test_wrong_numbers_come_ahead_of_too_many_letters(self):
        for number in (-1, 61, FAR, -FAR):
            self.assert_error(InvalidNumber, number, level, Row(RING), number)
            self.assert_error(InvalidNumber, number, level, Row(WIDE_AT_1), number)

    def test_too_many_letters_of_the_row_itself(self):
        for rules in (RING, RING_61, TWO_LONG, MANY_RETURNS, chain(61), chain(70)):
            for number in (0, 1, 2, 60):
                self.assert_error(TooMany, 0, level, Row(rules), number)

    def test_60_letters_are_not_too_many(self):
        for rules in (RING_60, chain(60)):
            for number in (0, 1, 2, 60):
                self.assertEqual(len(level(Row(rules), number).rules), 60)

    def test_too_many_letters_of_a_level(self):
        row = Row(WIDE_AT_1)
        self.assertEqual(level(row, 0), row)
        self.assertGreater(len(return_rules(row)), 60)
        for number in (1, 2, 3, 60):
            self.assert_error(TooMany, 1, level, row, number)
        row = Row(WIDE_AT_2)
        self.assertEqual([len(level(row, number).rules) for number in (0, 1)], [11, 58])
        for number in (2, 3, 60):
            self.assert_error(TooMany, 2, level, row, number)

    def test_levels_need_not_come_again(self):
        self.assertEqual(level(Row(runs(100)), 60).rules, levels_of(runs(100), 61)[60])


class LadderTest(Raising):
    def test_known_ladders(self):
        for rules, known in (
                (FIB, (0, 1)),
                (TRIB, (0, 1)),
                ([[0, 0]], (0, 1)),
                ([[0, 1], [0, 1, 0]], (0, 2)),
                ([[0, 1], [0, 1, 2], [0, 1, 0]], (0, 3)),
                ([[0, 1], [0, 0]], (1, 1)),
                ([[0, 0, 1], [0, 0]], (1, 2)),
                ([[0, 2], [0, 2, 0], [0, 2, 1]], (1, 3)),
                ([[0, 1, 1], [1, 0, 2], [1, 0]], (1, 4)),
                (TWIN, (2, 1)),
                ([[0, 1], [0, 2], [1, 0, 1]], (2, 2)),
                ([[0, 1], [1, 0, 2], [1, 0]], (2, 3)),
                ([[0, 1], [1, 1, 0]], (3, 1)),
                ([[0, 1, 0], [1, 0, 2], [1, 1, 0]], (3, 3)),
                ([[0, 0, 1], [0, 0, 2], [0, 0, 2]], (4, 1)),
                (RING_60, (0, 1)),
        ):
            self.assertEqual(ladder(Row(rules)), known)
            self.assertEqual(known_ladder(rules), known)

    def test_ladders(self):
        for rules in SMALL + [twice(rules) for rules in SMALL] + [chain(60), chain(20)]:
            self.assertEqual(ladder(Row(rules)), known_ladder(rules))

    def test_ladders_of_levels(self):
        for rules in SMALL:
            ahead, behind = ladder(Row(rules))
            for number in range(8):
                self.assertEqual(ladder(level(Row(rules), number)), (max(0, ahead - number), behind))

    def test_rules_that_come_again_late(self):
        for many in (1, 2, 3, 20, 59, 60):
            self.assertEqual(ladder(Row(runs(many))), (0, many))
        for many in (1, 2, 20, 58, 59):
            self.assertEqual(ladder(Row(even_runs(many))), (many, 1))

    def test_rules_that_do_not_come_again(self):
        for rules in (runs(61), runs(62), runs(100), even_runs(60), even_runs(61), even_runs(100)):
            self.assert_error(TooMany, 60, ladder, Row(rules))
            self.assert_error(TooMany, 60, widths, Row(rules))

    def test_too_many_letters(self):
        for function in (ladder, widths):
            for rules in (RING, RING_61, TWO_LONG, MANY_RETURNS, chain(61)):
                self.assert_error(TooMany, 0, function, Row(rules))
            self.assert_error(TooMany, 1, function, Row(WIDE_AT_1))
            self.assert_error(TooMany, 2, function, Row(WIDE_AT_2))

    def test_other_names_of_letters_are_other_rules(self):
        self.assertEqual(ladder(Row(renamed(TRIB, [0, 2, 1]))), (1, 1))


class WidthsTest(Raising):
    def test_known_widths(self):
        for rules, known in (
                (FIB, [2]),
                (TWIN, [2, 3, 4]),
                (TRIB, [3]),
                ([[0, 0]], [1]),
                ([[0, 1, 0], [1, 0, 1]], [2, 1]),
                ([[0, 0, 1], [0, 0, 2], [0, 0, 2]], [3, 3, 2, 2, 1]),
                ([[0, 1, 1], [1, 0, 2], [1, 0]], [3, 6, 6, 7, 7]),
                ([[0, 3], [2, 2], [1, 0], [1, 3]], [4, 14, 13]),
                (RING_60, [60]),
                (even_runs(59), [2] * 59 + [1]),
        ):
            self.assertEqual(widths(Row(rules)), known)

    def test_widths(self):
        for rules in SMALL + [twice(rules) for rules in SMALL]:
            row = Row(rules)
            many = sum(ladder(row))
            self.assertEqual(widths(row), [len(level(row, number).rules) for number in range(many)])


class KindsTest(Raising):
    def test_kinds_of_answers(self):
        for rules in SMALL:
            told = ladder(Row(rules))
            self.assertIs(type(told), tuple)
            self.assertEqual([type(number) for number in told], [int, int])
            self.assertIs(type(widths(Row(rules))), list)
            self.assertTrue(all(type(width) is int for width in widths(Row(rules))))

    def test_told_lists_may_be_changed(self):
        row = Row(TWIN)
        told = widths(row)
        told.append(9)
        told[0] = 7
        self.assertEqual(widths(row), [2, 3, 4])
        for number in range(5):
            below = level(row, number)
            kept = copy.deepcopy(below.rules)
            below.rules[0].append(1)
            below.rules.pop()
            self.assertEqual(below.rules, kept)
            self.assertEqual(level(row, number).rules, kept)
        self.assertEqual(row.rules, TWIN)

    def test_what_is_asked_again_gives_the_same_answer(self):
        row = Row(TWIN)
        first = [level(row, 3), ladder(row), widths(row)]
        self.assert_error(InvalidNumber, 61, level, row, 61)
        self.assert_error(TooMany, 0, ladder, Row(RING))
        self.assertEqual([level(row, 3), ladder(row), widths(row)], first)
        self.assertEqual(row.rules, TWIN)

    def test_by_name(self):
        row = Row(TWIN)
        self.assertEqual(level(number=2, row=row), level(row, 2))
        self.assertEqual(ladder(row=row), (2, 1))
        self.assertEqual(widths(row=row), [2, 3, 4])
        for name, names in (("level", ["row", "number"]), ("ladder", ["row"]), ("widths", ["row"])):
            function = getattr(returnrows.levels, name)
            self.assertEqual(function.__module__, "returnrows.levels")
            self.assertEqual(list(inspect.signature(function).parameters), names)

    def test_answers_come_promptly(self):
        for rules in (RING_60, chain(60), APERIODIC[8], runs(60), even_runs(59)):
            row = Row(rules)
            before = time.perf_counter()
            level(row, 60)
            ladder(row)
            widths(row)
            self.assertLess(time.perf_counter() - before, 3)
        for rules in (RING, MANY_RETURNS, WIDE_AT_1, [[0, 1]] + MANY_RETURNS[1:59] + [[1, 0]]):
            before = time.perf_counter()
            self.assertRaises(TooMany, ladder, Row(rules))
            self.assertLess(time.perf_counter() - before, 3)


if __name__ == "__main__":
    unittest.main()
