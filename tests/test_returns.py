"""Tests of the returns: points 2, 5 and 7 and the section on returnrows/returns.py."""

import copy
import inspect
import time
import unittest

import returnrows.returns
from returnrows.places import count_to, letter_at, piece
from returnrows.returns import return_row, return_rules, returns
from returnrows.rows import Row
from samples import (APERIODIC, FIB, MANY_RETURNS, PERIODIC, RING, RING_61, TRIB, TWIN, TWO_LONG, chain, cut, even_runs,
                     grown, renamed, runs, twice)

SMALL = APERIODIC + PERIODIC
LARGE = [RING, TWO_LONG, RING_61, chain(70), runs(30)]
FAR = 10 ** 30


class ReturnsTest(unittest.TestCase):
    def test_known_returns(self):
        for rules, known in (
                (FIB, [[0, 1], [0]]),
                (TWIN, [[0, 1, 1], [0, 1], [0]]),
                (TRIB, [[0, 1], [0, 2], [0]]),
                ([[0, 0]], [[0]]),
                ([[0, 0, 0]], [[0]]),
                ([[0, 1, 0], [1, 0, 1]], [[0, 1]]),
                ([[0, 1], [2], [3], [0]], [[0, 1, 2, 3], [0], [0, 1], [0, 1, 2]]),
                ([[0, 0, 1], [0, 0]], [[0], [0, 1]]),
                ([[0, 2], [0], [0, 1]], [[0, 2], [0, 1], [0]]),
        ):
            self.assertEqual(returns(Row(rules)), known)

    def test_all_unlike_returns_in_the_sequence_in_which_they_come_first(self):
        for rules in SMALL + [twice(rules) for rules in SMALL]:
            with self.subTest(rules=rules):
                known, _ = cut(grown(rules, 6000))
                self.assertEqual(returns(Row(rules)), known)

    def test_returns_of_many_letters(self):
        for rules in (RING, TWO_LONG, RING_61):
            known, _ = cut(grown(rules, 200000))
            self.assertEqual(returns(Row(rules)), known)

    def test_a_ring_comes_back_by_all_lengths(self):
        self.assertEqual(returns(Row(RING)), [list(range(70))] + [list(range(length)) for length in range(1, 70)])

    def test_two_steps_at_once_have_the_same_returns(self):
        for rules in SMALL + LARGE:
            self.assertEqual(returns(Row(twice(rules))), returns(Row(rules)))

    def test_other_names_of_letters_are_those_of_the_returns(self):
        for rules, names in ((TWIN, [0, 1]), (TRIB, [0, 2, 1]), (APERIODIC[8], [0, 3, 1, 2]),
                             (RING, [0] + list(range(69, 0, -1)))):
            told = returns(Row(renamed(rules, names)))
            self.assertEqual(told, [[names[letter] for letter in part] for part in returns(Row(rules))])

    def test_returns_that_come_first_far_out(self):
        # The last letter of 70 comes first behind some 10 ** 14 others.
        known = [[0] + list(range(2 - last % 2, last + 1, 2)) for last in range(1, 70)] + [[0]]
        self.assertEqual(returns(Row(chain(70))), known)

    def test_each_return_has_one_0_at_its_begin(self):
        for rules in SMALL + LARGE + [MANY_RETURNS]:
            told = returns(Row(rules))
            self.assertTrue(all(part[0] == 0 and part.count(0) == 1 for part in told))
            self.assertEqual(len({tuple(part) for part in told}), len(told))


class ReturnRulesTest(unittest.TestCase):
    def test_known_rules(self):
        for rules, known in (
                (FIB, FIB),
                (TWIN, [[0, 1, 2], [0, 2], [1]]),
                (TRIB, TRIB),
                ([[0, 0]], [[0, 0]]),
                ([[0, 0, 0]], [[0, 0, 0]]),
                ([[0, 1, 0], [1, 0, 1]], [[0, 0, 0]]),
                ([[0, 2], [0], [0, 1]], TRIB),
                ([[0, 1], [2], [3], [0]], [[0, 1], [2], [3], [0]]),
        ):
            self.assertEqual(return_rules(Row(rules)), known)

    def test_a_word_is_the_numbers_of_which_the_return_behind_one_step_is_made(self):
        for rules in SMALL + LARGE + [MANY_RETURNS]:
            row = Row(rules)
            told = returns(row)
            words = return_rules(row)
            self.assertEqual(len(words), len(told))
            for part, word in zip(told, words):
                behind = [following for letter in part for following in rules[letter]]
                self.assertEqual([letter for number in word for letter in told[number]], behind)

    def test_they_are_rules_of_a_row(self):
        for rules in SMALL + LARGE + [MANY_RETURNS]:
            words = return_rules(Row(rules))
            self.assertEqual(Row(words).rules, words)
            self.assertEqual(words[0][0], 0)
            self.assertGreaterEqual(len(words[0]), 2)

    def test_two_steps_at_once(self):
        for rules in SMALL + LARGE:
            self.assertEqual(return_rules(Row(twice(rules))), twice(return_rules(Row(rules))))

    def test_they_do_not_hang_on_the_names_of_letters(self):
        for rules, names in ((TRIB, [0, 2, 1]), (APERIODIC[8], [0, 3, 1, 2]), (RING, [0] + list(range(69, 0, -1)))):
            self.assertEqual(return_rules(Row(renamed(rules, names))), return_rules(Row(rules)))


class ReturnRowTest(unittest.TestCase):
    def test_it_is_the_row_of_the_rules_of_returns(self):
        for rules in SMALL + LARGE + [MANY_RETURNS]:
            row = Row(rules)
            told = return_row(row)
            self.assertIs(type(told), Row)
            self.assertEqual(told.rules, return_rules(row))
            self.assertTrue(told == Row(return_rules(row)))

    def test_its_letters_are_the_numbers_of_the_returns(self):
        for rules in SMALL + [twice(rules) for rules in SMALL]:
            _, numbers = cut(grown(rules, 3000))
            self.assertEqual(grown(return_rules(Row(rules)), len(numbers)), numbers)
            self.assertEqual(piece(return_row(Row(rules)), 0, 200), numbers[:200])

    def test_returns_and_row_agree_far_out(self):
        for rules in SMALL + LARGE:
            row = Row(rules)
            told = returns(row)
            below = return_row(row)
            index = FAR // 100
            place = sum(len(part) * count_to(below, number, index) for number, part in enumerate(told))
            for number in piece(below, index, 12):
                self.assertEqual(piece(row, place, len(told[number])), told[number])
                place += len(told[number])
            self.assertEqual(letter_at(row, place), 0)

    def test_numbers_come_first_in_their_sequence(self):
        for rules in SMALL:
            below = return_row(Row(rules))
            met = list(dict.fromkeys(piece(below, 0, 400)))
            self.assertEqual(met, list(range(len(below.rules))))

    def test_returned_rows_may_be_passed_on(self):
        for rules in SMALL + LARGE:
            row = Row(rules)
            for _ in range(3):
                known, numbers = cut(piece(row, 0, 400))
                self.assertEqual(returns(row)[:len(known)], known)
                row = return_row(row)
                self.assertEqual(piece(row, 0, len(numbers)), numbers)


class KindsTest(unittest.TestCase):
    def test_told_lists_may_be_changed(self):
        for function in (returns, return_rules):
            for rules in (FIB, TWIN, [[0, 0]], RING):
                row = Row(rules)
                first = function(row)
                kept = copy.deepcopy(first)
                first[0].append(7)
                first[-1][0] = 5
                first.append([1])
                self.assertEqual(function(row), kept)
                self.assertEqual(function(Row(rules)), kept)
                self.assertEqual(row.rules, rules)

    def test_no_list_stands_twice_in_an_answer(self):
        for function in (returns, return_rules):
            for rules in SMALL + LARGE:
                told = function(Row(rules))
                self.assertEqual(len({id(word) for word in told}), len(told))

    def test_answers_are_lists_of_lists_of_integers(self):
        for function in (returns, return_rules):
            for rules in SMALL:
                told = function(Row(rules))
                self.assertIs(type(told), list)
                self.assertTrue(all(type(word) is list for word in told))
                self.assertTrue(all(type(letter) is int for word in told for letter in word))

    def test_what_is_asked_again_gives_the_same_answer(self):
        row, other = Row(TWIN), Row(FIB)
        first = [returns(row), return_rules(row), return_row(row)]
        returns(other)
        return_row(other)
        self.assertEqual([returns(row), return_rules(row), return_row(row)], first)
        self.assertEqual(row.rules, TWIN)

    def test_by_name(self):
        for name in ("returns", "return_rules", "return_row"):
            function = getattr(returnrows.returns, name)
            self.assertEqual(function(row=Row(TWIN)), function(Row(TWIN)))
            self.assertEqual(function.__module__, "returnrows.returns")
            self.assertEqual(list(inspect.signature(function).parameters), ["row"])

    def test_answers_come_promptly(self):
        for rules in LARGE + [MANY_RETURNS, even_runs(69)]:
            row = Row(rules)
            before = time.perf_counter()
            returns(row)
            return_rules(row)
            return_row(row)
            self.assertLess(time.perf_counter() - before, 3)


if __name__ == "__main__":
    unittest.main()
