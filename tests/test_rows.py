"""Tests of the rows: points 2 to 4 and the section on returnrows/rows.py."""

import copy
import itertools
import unittest
from unittest import mock

from returnrows.errors import InvalidLetter, InvalidNumber, InvalidRules, NotMixed
from returnrows.rows import Row
from samples import FIB, RING, TWIN, TWO_LONG, Raising


def mixed_by_its_words(rules):
    """Whether each letter leads to all letters at some same number of steps, by trying them."""
    everything = set(range(len(rules)))
    held = [{letter} for letter in everything]
    # Wielandt: if no number of steps up to this one will do, none will.
    for _ in range((len(rules) - 1) ** 2 + 2):
        if all(letters == everything for letters in held):
            return True
        held = [set().union(*[held[letter] for letter in word]) for word in rules]
    return False


def all_words(letters, longest):
    for length in range(1, longest + 1):
        for word in itertools.product(range(letters), repeat=length):
            yield list(word)


class WrongRulesTest(Raising):
    def assert_wrong(self, error, value, rules):
        before = copy.deepcopy(rules)
        self.assert_error(error, value, Row, rules)
        self.assertEqual(rules, before)

    def test_no_words(self):
        self.assert_wrong(InvalidNumber, 0, [])

    def test_the_first_empty_word_is_told_by_its_index(self):
        self.assert_wrong(InvalidRules, 0, [[]])
        self.assert_wrong(InvalidRules, 0, [[], [0]])
        self.assert_wrong(InvalidRules, 1, [[0, 1], []])
        self.assert_wrong(InvalidRules, 1, [[0, 1], [], [1], []])
        self.assert_wrong(InvalidRules, 69, RING[:69] + [[]])

    def test_the_first_number_that_is_no_letter(self):
        self.assert_wrong(InvalidLetter, 2, [[0, 2], [0]])
        self.assert_wrong(InvalidLetter, 1, [[0, 1]])
        self.assert_wrong(InvalidLetter, 3, [[0, 1], [0, 3, 4], [5]])
        self.assert_wrong(InvalidLetter, 70, RING[:69] + [[70]])
        self.assert_wrong(InvalidLetter, 10 ** 30, [[0, 1], [10 ** 30]])

    def test_negative_numbers_are_no_letters(self):
        self.assert_wrong(InvalidLetter, -1, [[0, -1], [0]])
        self.assert_wrong(InvalidLetter, -2, [[0, 1], [0, -2, 2]])
        self.assert_wrong(InvalidLetter, -10 ** 30, [[-10 ** 30, 5], [0]])

    def test_the_first_wrong_number_is_found_word_by_word(self):
        self.assert_wrong(InvalidLetter, 9, [[0, 1, 9], [7, 0]])
        self.assert_wrong(InvalidLetter, 7, [[0, 1, 1], [7, 0, 9]])

    def test_the_word_of_0_must_begin_with_0(self):
        self.assert_wrong(InvalidRules, 0, [[1, 0], [0, 1]])
        self.assert_wrong(InvalidRules, 0, [[1, 1], [0]])

    def test_the_word_of_0_must_not_have_one_letter_alone(self):
        self.assert_wrong(InvalidRules, 0, [[0]])
        self.assert_wrong(InvalidRules, 0, [[0], [0, 1]])
        self.assert_wrong(InvalidRules, 0, [[1], [0, 1]])

    def test_rules_that_are_not_mixed(self):
        # 0 never leads to 1; 1 never leads to 0; neither to 2; 1 and 2 lead to one another only.
        self.assert_wrong(NotMixed, 0, [[0, 0], [0]])
        self.assert_wrong(NotMixed, 0, [[0, 1], [1]])
        self.assert_wrong(NotMixed, 0, [[0, 1], [1, 0], [0, 1]])
        self.assert_wrong(NotMixed, 0, [[0, 1], [2], [1]])
        self.assert_wrong(NotMixed, 0, RING[:69] + [[69]])
        self.assert_wrong(NotMixed, 0, RING[:68] + [[0], [0]])

    def test_the_errors_come_in_their_sequence(self):
        self.assert_wrong(InvalidRules, 1, [[5], []])
        self.assert_wrong(InvalidRules, 2, [[1], [-1], []])
        self.assert_wrong(InvalidLetter, 7, [[1], [0, 7]])
        self.assert_wrong(InvalidLetter, 7, [[0], [7]])
        self.assert_wrong(InvalidRules, 0, [[0], [1]])
        self.assert_wrong(InvalidRules, 0, [[1, 1], [1]])


class RowTest(unittest.TestCase):
    def test_mixed_is_told_as_the_document_defines_it(self):
        told = {True: 0, False: 0}
        cases = [(1, 3), (2, 3), (3, 2)]
        for letters, longest in cases:
            for rules in itertools.product(all_words(letters, longest), repeat=letters):
                rules = list(rules)
                if rules[0][0] != 0 or len(rules[0]) == 1:
                    continue
                mixed = mixed_by_its_words(rules)
                told[mixed] += 1
                if mixed:
                    self.assertEqual(Row(rules).rules, rules)
                else:
                    self.assertRaises(NotMixed, Row, rules)
        self.assertGreater(min(told.values()), 100)

    def test_rules_are_as_passed(self):
        for rules in (FIB, TWIN, [[0, 0]], [[0, 0, 0]], [[0, 1], [2], [3], [0, 0]], RING, TWO_LONG):
            self.assertEqual(Row(rules).rules, rules)

    def test_rules_of_70_words(self):
        self.assertEqual(len(Row(RING).rules), 70)
        self.assertEqual(len(Row(TWO_LONG).rules), 70)

    def test_rules_by_name(self):
        self.assertEqual(Row(rules=FIB).rules, FIB)

    def test_the_argument_is_not_changed(self):
        rules = copy.deepcopy(TWIN)
        Row(rules)
        self.assertEqual(rules, TWIN)

    def test_the_caller_may_change_the_list_afterwards(self):
        rules = copy.deepcopy(FIB)
        row = Row(rules)
        rules[0].append(7)
        rules[1][0] = 1
        rules.append([])
        self.assertEqual(row.rules, FIB)
        self.assertEqual(row, Row(FIB))

    def test_rules_are_new_lists_each_time(self):
        row = Row(FIB)
        told = row.rules
        self.assertIs(type(told), list)
        self.assertTrue(all(type(word) is list for word in told))
        told[0].append(1)
        told[1][0] = 5
        told.pop()
        self.assertEqual(row.rules, FIB)
        self.assertIsNot(row.rules, row.rules)
        self.assertIsNot(row.rules[0], row.rules[0])

    def test_words_that_the_caller_passes_twice_become_lists_of_their_own(self):
        word = [0, 1]
        told = Row([word, word]).rules
        told[0].append(0)
        self.assertEqual(told[1], [0, 1])

    def test_rules_is_a_property_that_is_not_assigned(self):
        self.assertIsInstance(Row.__dict__["rules"], property)
        with self.assertRaises(AttributeError):
            Row(FIB).rules = TWIN

    def test_equal_rows(self):
        self.assertTrue(Row(FIB) == Row(copy.deepcopy(FIB)))
        self.assertFalse(Row(FIB) != Row(copy.deepcopy(FIB)))
        self.assertTrue(Row(RING) == Row(RING))

    def test_unlike_rows(self):
        self.assertFalse(Row(FIB) == Row(TWIN))
        self.assertTrue(Row(FIB) != Row(TWIN))

    def test_rows_of_unlike_rules_are_unlike_even_where_their_letters_are_the_same(self):
        self.assertFalse(Row([[0, 0]]) == Row([[0, 0, 0]]))
        self.assertFalse(Row(TWIN) == Row([[0, 1, 1, 0], [1, 0, 0, 1]]))

    def test_a_row_is_not_equal_to_anything_else(self):
        for other in (FIB, [[0, 1], [0]], ((0, 1), (0,)), None, 0, "0 1, 0", object(), mock.ANY):
            self.assertFalse(Row(FIB) == other)
            self.assertTrue(Row(FIB) != other)

    def test_the_class_defines_its_own_methods(self):
        self.assertEqual(Row.__module__, "returnrows.rows")
        for name in ("__init__", "__eq__", "rules"):
            self.assertIn(name, Row.__dict__)


if __name__ == "__main__":
    unittest.main()
