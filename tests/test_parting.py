"""Tests of parting rows: points 2, 6 and 7 and the section on returnrows/parting.py."""

import inspect
import itertools
import random
import time
import unittest

import returnrows.parting
from returnrows.errors import RowError, TooMany
from returnrows.levels import ladder, level
from returnrows.parting import alike, are_equal, kin, parting
from returnrows.places import count_to, letter_at, piece
from returnrows.returns import return_row
from returnrows.rows import Row
from samples import (APERIODIC, FIB, MANY_RETURNS, PERIODIC, RING, RING_60, RING_61, TRIB, TWIN, TWO_LONG, WIDE_AT_1,
                     WIDE_AT_2, Raising, chain, even_runs, fibonacci, grown, renamed, runs, twice)

SMALL = APERIODIC + PERIODIC
LENGTH = 4000
BEGINS = {}


def begin_of(rules):
    """The begin of a row, kept for the next time."""
    key = str(rules)
    if key not in BEGINS:
        BEGINS[key] = grown(rules, LENGTH)
    return BEGINS[key]


def first_unlike(begin, other):
    """The first place at which two begins of rows part, with the letters there, or None."""
    for place, (letter, other_letter) in enumerate(zip(begin, other)):
        if letter != other_letter:
            return place, letter, other_letter
    return None


def in_sequence(begin):
    """The begin of a row with its letters renamed in the sequence in which they come first."""
    names = {}
    return [names.setdefault(letter, len(names)) for letter in begin]


def swapped(rules, letter, other):
    """The rules with the names of two letters exchanged."""
    names = list(range(len(rules)))
    names[letter], names[other] = other, letter
    return renamed(rules, names)


def three_times(rules):
    """The rules of three steps at once."""
    return [[last for following in word for last in rules[following]] for word in twice(rules)]


def changed(rules, source):
    """The rules with one letter exchanged, if these are rules of a row."""
    while True:
        words = [list(word) for word in rules]
        word = source.choice(words)
        word[source.randrange(len(word))] = source.randrange(len(words))
        try:
            return Row(words).rules
        except RowError:
            continue


def many_pairs():
    """Pairs of rules whose rows are equal, part early, or part late."""
    source = random.Random(7)
    pairs = list(itertools.product(SMALL, SMALL))
    for rules in SMALL:
        pairs.extend([(rules, twice(rules)), (twice(rules), three_times(rules))])
        for known in (rules, twice(rules)):
            if len(rules) > 1:
                pairs.extend([(rules, changed(known, source)) for _ in range(12)])
    return pairs


PAIRS = many_pairs()


class PartingTest(Raising):
    def test_known_places(self):
        for rules, other, known in (
                (FIB, [[0, 1, 0], [1, 0]], (3, 0, 1)),
                ([[0, 1, 0], [1, 0]], FIB, (3, 1, 0)),
                (FIB, [[0, 1, 0], [0, 1]], None),
                (FIB, TWIN, (2, 0, 1)),
                (FIB, TRIB, (3, 0, 2)),
                (FIB, [[0, 0]], (1, 1, 0)),
                ([[0, 0]], [[0, 0, 0]], None),
                ([[0, 1], [0, 1]], [[0, 1, 0], [1, 0, 1]], None),
                (RING_60, FIB, (2, 2, 0)),
        ):
            self.assertEqual(parting(Row(rules), Row(other)), known)

    def test_pairs(self):
        told = {"equal": 0, "near": 0, "later": 0}
        for rules, other in PAIRS:
            with self.subTest(rules=rules, other=other):
                known = first_unlike(begin_of(rules), begin_of(other))
                told["equal" if known is None else "near" if known[0] < 10 else "later"] += 1
                self.assertEqual(parting(Row(rules), Row(other)), known)
                self.assertIs(are_equal(Row(rules), Row(other)), known is None)
        self.assertGreater(min(told.values()), 20)

    def test_the_other_way_round(self):
        for rules, other in PAIRS:
            told = parting(Row(rules), Row(other))
            turned = parting(Row(other), Row(rules))
            self.assertEqual(turned, None if told is None else (told[0], told[2], told[1]))

    def test_a_row_is_equal_to_itself(self):
        for rules in SMALL + [RING_60, chain(60), runs(60), even_runs(59)]:
            row = Row(rules)
            self.assertIsNone(parting(row, row))
            self.assertIs(are_equal(row, row), True)

    def test_steps_at_once_make_the_same_row(self):
        for rules in SMALL + [RING_60, chain(60)]:
            for other in (twice(rules), three_times(rules)):
                self.assertIsNone(parting(Row(rules), Row(other)))
                self.assertIs(are_equal(Row(other), Row(rules)), True)

    def test_other_names_part_where_the_first_of_them_stands(self):
        self.assertEqual(parting(Row(TRIB), Row(swapped(TRIB, 1, 2))), (1, 1, 2))
        self.assertEqual(parting(Row(RING_60), Row(swapped(RING_60, 20, 59))), (20, 20, 59))
        self.assertEqual(parting(Row(RING_60), Row(swapped(RING_60, 58, 59))), (58, 58, 59))

    def test_far_places(self):
        for letters in range(5, 61, 5):
            rules = chain(letters)
            row, other = Row(rules), Row(swapped(rules, letters - 2, letters - 1))
            known = (fibonacci(letters + 1) - 2, letters - 2, letters - 1)
            self.assertEqual(parting(row, other), known)
            self.assertEqual(parting(row, Row(twice(other.rules))), known)
            self.assertEqual(letter_at(row, known[0]), letters - 2)
            self.assertEqual(first_unlike(grown(rules, 5000), grown(other.rules, 5000)),
                             known if known[0] < 5000 else None)
        self.assertGreater(known[0], 10 ** 12)

    def test_far_places_where_a_word_is_unlike(self):
        for letters in (10, 20, 40, 60):
            rules = chain(letters)
            row, other = Row(rules), Row(rules[:-1] + [[1]])
            place, letter, other_letter = parting(row, other)
            self.assertEqual((letter, other_letter), (0, 1))
            self.assertEqual((letter_at(row, place), letter_at(other, place)), (0, 1))
            self.assertEqual([count_to(row, known, place) for known in range(letters)],
                             [count_to(other, known, place) for known in range(letters)])
            self.assertEqual(piece(row, max(0, place - 400), min(place, 400)),
                             piece(other, max(0, place - 400), min(place, 400)))
            # The word of the last letter comes first one step behind the letter itself.
            self.assertGreater(place, fibonacci(letters + 1))

    def test_rows_whose_levels_agree_for_long(self):
        # The lists of returns of runs(many) and runs(many + 1) are the same down to the level many - 2.
        for many in (1, 2, 3, 20, 58, 59, 60, 61):
            self.assertEqual(parting(Row(runs(many)), Row(runs(many + 1))), (many, 1, 0))
            self.assertEqual(parting(Row(runs(many + 1)), Row(runs(many))), (many, 0, 1))
            self.assertEqual(parting(Row(even_runs(many)), Row(runs(many + 1))), (many, 1, 0))

    def test_rows_of_a_level_and_of_other_rules(self):
        for rules in SMALL:
            row = Row(rules)
            for number in range(4):
                self.assertIsNone(parting(level(row, number + 1), return_row(level(row, number))))
                self.assertIsNone(parting(level(row, number), level(Row(twice(rules)), number)))

    def test_answers_are_tuples_of_integers(self):
        told = parting(Row(FIB), Row(TWIN))
        self.assertIs(type(told), tuple)
        self.assertEqual([type(number) for number in told], [int, int, int])


class ErrorsTest(Raising):
    def test_too_many_letters_of_a_row_come_ahead_of_all_lists(self):
        for function in (parting, are_equal, alike):
            for rules in (RING, RING_61, TWO_LONG, MANY_RETURNS, chain(61)):
                for other in (FIB, TWIN, [[0, 0]], RING, rules):
                    self.assert_error(TooMany, 0, function, Row(rules), Row(other))
                    self.assert_error(TooMany, 0, function, Row(other), Row(rules))

    def test_too_many_letters_of_a_level_as_long_as_the_lists_are_the_same(self):
        for function in (parting, are_equal, alike):
            for rules, value in ((WIDE_AT_1, 1), (WIDE_AT_2, 2)):
                self.assert_error(TooMany, value, function, Row(rules), Row(rules))
                self.assert_error(TooMany, value, function, Row(rules), Row(twice(rules)))

    def test_rows_with_unlike_lists_part_whatever_their_levels_are(self):
        for rules in (WIDE_AT_1, WIDE_AT_2, runs(100), even_runs(100)):
            for other in (FIB, TWIN, TRIB, [[0, 0]], RING_60, swapped(rules, len(rules) - 1, len(rules) - 2)):
                try:
                    other = Row(other)
                except RowError:
                    continue
                known = first_unlike(grown(rules, LENGTH), grown(other.rules, LENGTH))
                self.assertEqual(parting(Row(rules), other), known)
                self.assertIs(are_equal(other, Row(rules)), False)

    def test_rules_that_do_not_come_again(self):
        for function in (parting, are_equal, alike):
            for rules in (runs(61), runs(62), runs(100), even_runs(60), even_runs(100)):
                self.assert_error(TooMany, 60, function, Row(rules), Row(rules))
            self.assert_error(TooMany, 60, function, Row(runs(62)), Row(runs(63)))
            self.assert_error(TooMany, 60, function, Row(runs(100)), Row(even_runs(100)))
        self.assert_error(TooMany, 60, are_equal, Row(twice(runs(61))), Row(runs(61)))


class AlikeTest(Raising):
    def test_known_pairs(self):
        for rules, other, known in (
                (TRIB, [[0, 2], [0], [0, 1]], True),
                (TRIB, TRIB, True),
                (FIB, [[0, 1, 0], [0, 1]], True),
                (FIB, TWIN, False),
                (FIB, TRIB, False),
                ([[0, 0]], [[0, 0, 0]], True),
                ([[0, 0]], [[0, 1], [0, 1]], False),
                ([[0, 2, 1], [0, 2, 1], [0, 2, 1]], [[0, 1, 2], [0, 1, 2], [0, 1, 2]], True),
        ):
            self.assertIs(alike(Row(rules), Row(other)), known)

    def test_pairs(self):
        told = {True: 0, False: 0}
        for rules, other in PAIRS:
            with self.subTest(rules=rules, other=other):
                known = in_sequence(begin_of(rules)) == in_sequence(begin_of(other))
                told[known] += 1
                self.assertIs(alike(Row(rules), Row(other)), known)
        self.assertGreater(min(told.values()), 20)

    def test_all_other_names(self):
        for rules in SMALL:
            for names in itertools.permutations(range(1, len(rules))):
                other = renamed(rules, [0, *names])
                self.assertIs(alike(Row(rules), Row(other)), True)
                self.assertIs(alike(Row(twice(other)), Row(rules)), True)
                self.assertIs(are_equal(Row(rules), Row(other)), names == tuple(range(1, len(rules))))

    def test_many_letters(self):
        names = [0] + list(range(59, 0, -1))
        for rules in (RING_60, chain(60)):
            self.assertIs(alike(Row(rules), Row(renamed(rules, names))), True)
            self.assertIs(alike(Row(renamed(rules, names)), Row(chain(59))), False)
        self.assertIs(alike(Row(renamed(chain(60), names)), Row(chain(60)[:-1] + [[1]])), False)


class KinTest(Raising):
    def known_kin(self, rules, other):
        row, other_row = Row(rules), Row(other)
        many, other_many = sum(ladder(row)), sum(ladder(other_row))
        pairs = sorted(itertools.product(range(many), range(other_many)), key=lambda pair: (sum(pair), pair[0]))
        for number, other_number in pairs:
            if begin_of(level(row, number).rules) == begin_of(level(other_row, other_number).rules):
                return number, other_number
        return None

    def test_known_pairs(self):
        for rules, other, known in (
                (FIB, FIB, (0, 0)),
                (FIB, [[0, 1, 0], [0, 1]], (0, 0)),
                (FIB, TWIN, None),
                (TRIB, swapped(TRIB, 1, 2), (0, 1)),
                (swapped(TRIB, 1, 2), TRIB, (1, 0)),
                ([[0, 0]], [[0, 1], [0, 1]], (0, 1)),
                ([[0, 1, 0], [1, 0, 1]], [[0, 0, 1], [0, 0, 1]], (0, 1)),
                ([[0, 1, 2], [0, 1, 2], [0, 1, 2]], [[0, 1], [2, 3], [0, 1], [2, 3]], (1, 1)),
        ):
            self.assertEqual(kin(Row(rules), Row(other)), known)

    def test_pairs(self):
        told = {"first": 0, "later": 0, "none": 0}
        for rules, other in itertools.product(SMALL, SMALL):
            with self.subTest(rules=rules, other=other):
                known = self.known_kin(rules, other)
                told["none" if known is None else "first" if known == (0, 0) else "later"] += 1
                self.assertEqual(kin(Row(rules), Row(other)), known)
        self.assertGreater(min(told.values()), 5)

    def test_levels_are_kin_to_their_row(self):
        for rules in SMALL:
            row = Row(rules)
            many = sum(ladder(row))
            for number in range(many + 3):
                below = level(Row(twice(rules)), number)
                told = kin(row, below)
                self.assertEqual(told, self.known_kin(rules, below.rules))
                self.assertLessEqual(sum(told), number)

    def test_the_sum_comes_ahead_of_the_first_number(self):
        row = Row(APERIODIC[9])
        self.assertEqual(ladder(row), (1, 4))
        # The levels 1 to 4 come again in turn, and the pair (1, 0) has a lesser sum than (0, 3).
        self.assertEqual(kin(level(row, 4), level(row, 1)), (1, 0))
        self.assertEqual(kin(level(row, 1), level(row, 4)), (0, 1))
        self.assertEqual(kin(row, level(row, 4)), (1, 1))
        self.assertEqual(kin(level(row, 4), row), (1, 1))

    def test_of_equal_sums_the_lesser_first_number_comes_first(self):
        row = Row(APERIODIC[9])
        self.assertEqual(kin(row, level(row, 3)), (1, 2))
        self.assertEqual(kin(level(row, 3), row), (0, 3))
        self.assertEqual(kin(level(row, 1), level(row, 3)), (0, 2))
        self.assertEqual(kin(level(row, 3), level(row, 1)), (0, 2))

    def test_a_level_does_not_count_behind_the_ladder(self):
        row = Row(APERIODIC[10])
        self.assertEqual(ladder(row), (1, 2))
        self.assertEqual(kin(level(row, 1), level(row, 2)), (0, 1))
        self.assertEqual(kin(level(row, 2), level(row, 1)), (0, 1))

    def test_answers_are_tuples_of_integers(self):
        told = kin(Row(FIB), Row(FIB))
        self.assertIs(type(told), tuple)
        self.assertEqual([type(number) for number in told], [int, int])

    def test_too_many_letters(self):
        for rules in (RING, RING_61, chain(61)):
            self.assert_error(TooMany, 0, kin, Row(rules), Row(FIB))
            self.assert_error(TooMany, 0, kin, Row(FIB), Row(rules))
            self.assert_error(TooMany, 0, kin, Row(rules), Row(rules))
        self.assert_error(TooMany, 1, kin, Row(WIDE_AT_1), Row(WIDE_AT_1))
        self.assert_error(TooMany, 2, kin, Row(WIDE_AT_2), Row(WIDE_AT_2))
        self.assert_error(TooMany, 60, kin, Row(runs(61)), Row(runs(61)))

    def test_longer_ladders_than_8(self):
        self.assertEqual(kin(Row(runs(9)), Row(runs(9))), (0, 0))
        self.assertEqual(kin(level(Row(runs(9)), 5), Row(runs(9))), (4, 0))
        self.assertEqual(kin(Row(even_runs(9)), Row(even_runs(11))), (0, 2))
        self.assertEqual(kin(Row(even_runs(11)), Row(even_runs(9))), (2, 0))
        self.assertIsNone(kin(Row(runs(9)), Row(runs(10))))


class KindsTest(Raising):
    def test_by_name(self):
        row, other = Row(FIB), Row(TWIN)
        for name in ("parting", "are_equal", "alike", "kin"):
            function = getattr(returnrows.parting, name)
            self.assertEqual(function.__module__, "returnrows.parting")
            self.assertEqual(list(inspect.signature(function).parameters), ["row", "other"])
            self.assertEqual(function(other=other, row=row), function(row, other))
        self.assertEqual(parting(other=other, row=row), (2, 0, 1))

    def test_what_is_asked_again_gives_the_same_answer(self):
        rows = [Row(rules) for rules in (FIB, TWIN, [[0, 1, 0], [0, 1]])]
        calls = list(itertools.product((parting, are_equal, alike, kin), rows, rows))
        first = [function(row, other) for function, row, other in calls]
        self.assert_error(TooMany, 0, parting, rows[0], Row(RING))
        self.assertEqual([function(row, other) for function, row, other in calls], first)
        self.assertEqual([row.rules for row in rows], [FIB, TWIN, [[0, 1, 0], [0, 1]]])

    def test_answers_come_promptly(self):
        wide = [[0, 1]] + [[letter + 1] for letter in range(1, 59)] + [[1, 0]]
        for rules, other in ((chain(60), swapped(chain(60), 58, 59)), (RING_60, swapped(RING_60, 58, 59)),
                             (runs(60), runs(61)), (wide, swapped(wide, 58, 59)), (wide, twice(RING_60)),
                             (RING_60, twice(RING_60)), (chain(60), twice(chain(60)))):
            row, other = Row(rules), Row(other)
            before = time.perf_counter()
            parting(row, other)
            are_equal(row, other)
            self.assertLess(time.perf_counter() - before, 3)
        before = time.perf_counter()
        self.assertRaises(TooMany, parting, Row(wide), Row(wide))
        self.assertRaises(TooMany, alike, Row(wide), Row(swapped(wide, 58, 59)))
        kin(Row(APERIODIC[8]), Row(APERIODIC[11]))
        self.assertLess(time.perf_counter() - before, 3)


if __name__ == "__main__":
    unittest.main()
