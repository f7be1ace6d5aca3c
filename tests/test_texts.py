"""Tests of the texts and readings: points 3 and 4 and the section on returnrows/texts.py and returnrows/readings.py."""

import inspect
import re
import time
import unittest

import returnrows.readings
import returnrows.texts
from returnrows.errors import RowError, Unreadable
from returnrows.readings import read_row
from returnrows.rows import Row
from returnrows.texts import show_row
from samples import APERIODIC, FIB, PERIODIC, RING, RING_60, TWIN, TWO_LONG, WIDE_AT_2, chain, runs, twice

SMALL = APERIODIC + PERIODIC
ALL = SMALL + [twice(rules) for rules in SMALL] + [RING, RING_60, TWO_LONG, WIDE_AT_2, chain(11), chain(60), runs(100)]
LETTER = "(?:0|[1-9][0-9]*)"
WORD = f"{LETTER}(?: {LETTER})*"
PRINTED = [chr(sign) for sign in range(32, 127)]


def known_rules(text):
    """The rules of the row with a text, or None: by the form of the text and by what Row says."""
    if not re.fullmatch(f"{WORD}(?:, {WORD})*", text):
        return None
    rules = [[int(letter) for letter in word.split()] for word in text.split(",")]
    try:
        return Row(rules).rules
    except RowError:
        return None


class ShowTest(unittest.TestCase):
    def test_known_texts(self):
        for rules, text in (
                (FIB, "0 1, 0"),
                (TWIN, "0 1, 1 0"),
                ([[0, 0]], "0 0"),
                ([[0, 0, 0]], "0 0 0"),
                ([[0, 1, 2], [0, 2], [1]], "0 1 2, 0 2, 1"),
                (chain(12), "0 1, 0 2, 3, 4, 5, 6, 7, 8, 9, 10, 11, 0"),
                (WIDE_AT_2, "0 9 7, 8 5 9, 4 8 5 6 2, 8 0 4 7 0, 9 1 2 8, 10 2, 10 3 8 6, 3 4 10 10 8, 2 2, "
                            "8 6 0 6 0, 8 7"),
        ):
            self.assertEqual(show_row(Row(rules)), text)
            self.assertIs(type(show_row(Row(rules))), str)

    def test_letters_of_one_and_two_figures(self):
        self.assertEqual(show_row(Row(RING)), "0 1, " + ", ".join(str(letter) for letter in range(2, 70)) + ", 0")

    def test_the_row_is_not_changed(self):
        row = Row(TWIN)
        show_row(row)
        self.assertEqual(row.rules, TWIN)


class ReadTest(unittest.TestCase):
    def assert_unreadable(self, text):
        with self.assertRaises(Unreadable) as caught:
            read_row(text)
        self.assertIs(type(caught.exception), Unreadable)
        self.assertEqual(caught.exception.value, text)
        self.assertIs(type(caught.exception.value), str)

    def assert_read_as_known(self, text):
        known = known_rules(text)
        if known is None:
            self.assert_unreadable(text)
        else:
            self.assertEqual(read_row(text).rules, known)
            self.assertEqual(show_row(read_row(text)), text)

    def test_each_text_that_is_shown_is_read(self):
        for rules in ALL:
            row = Row(rules)
            told = read_row(show_row(row))
            self.assertIs(type(told), Row)
            self.assertEqual(told, row)
            self.assertEqual(told.rules, rules)

    def test_a_sign_left_out(self):
        for rules in SMALL + [RING, WIDE_AT_2]:
            text = show_row(Row(rules))
            for place in range(len(text)):
                self.assert_read_as_known(text[:place] + text[place + 1:])

    def test_a_sign_put_in(self):
        for rules in (FIB, TWIN, [[0, 0]], APERIODIC[5], chain(12)):
            text = show_row(Row(rules))
            for place in range(len(text) + 1):
                for sign in PRINTED:
                    self.assert_read_as_known(text[:place] + sign + text[place:])

    def test_a_sign_exchanged(self):
        for rules in (FIB, TWIN, [[0, 0]], APERIODIC[5], chain(12)):
            text = show_row(Row(rules))
            for place in range(len(text)):
                for sign in PRINTED:
                    self.assert_read_as_known(text[:place] + sign + text[place + 1:])

    def test_two_signs_exchanged_for_each_other(self):
        for rules in SMALL + [chain(12)]:
            text = show_row(Row(rules))
            for place in range(len(text) - 1):
                self.assert_read_as_known(text[:place] + text[place + 1] + text[place] + text[place + 2:])

    def test_leading_zeros(self):
        for text in ("00 1, 0", "0 01, 0", "0 1, 00", "0 001, 0", "0 1, 0 02, 0", "00 00", "0 00"):
            self.assert_unreadable(text)

    def test_signs_ahead_of_a_number(self):
        for text in ("0 +1, 0", "+0 1, 0", "-0 1, 0", "0 1, -0", "0 -1, 0", "0 1, 1 -0", "0 1_0, 0", "0 1.0, 0",
                     "0 1e0, 0", "0 0x1, 0"):
            self.assert_unreadable(text)

    def test_other_blanks_and_commas(self):
        for text in (" 0 1, 0", "0 1, 0 ", "0  1, 0", "0 1 , 0", "0 1,  0", "0 1,0", "0,1, 0", "0 1, 0,", "0 1, 0, ",
                     ", 0 1, 0", ",0 1, 0", "0 1,, 0", "0 1, , 0", "0 1; 0", "01, 0", "0 1 0,", "0, 1, 0",
                     "[0 1, 0]", "[[0, 1], [0]]", "0\t1, 0", "0 1,\n0", "0 1, 0\n", "0\u00a01, 0"):
            self.assert_unreadable(text)

    def test_no_words(self):
        for text in ("", " ", ",", ", ", ",,", "  ", ", , ", " ,"):
            self.assert_unreadable(text)

    def test_words_that_are_no_numbers(self):
        for text in ("a", "0 a, 0", "zero one, zero", "x0 1, 0", "0 1, 0x", "0 \u0661, 0", "0 \u00b9, 0", "~", "0 1, ~"):
            self.assert_unreadable(text)

    def test_rules_that_are_none(self):
        for text in ("0", "0, 0", "1 0, 0 1", "1, 0", "0 2, 0", "0 1", "0 1, 2", "0 0, 0", "0 1, 1", "0 1, 2, 1",
                     "0 1, 0, 0", "0 70, 0", "0 10, 0"):
            self.assert_unreadable(text)

    def test_long_texts(self):
        before = time.perf_counter()
        for text in ("0" * 1000, "9" * 1000, "0 " + "1" * 998, "0 1, " + "7" * 5000, "0 " * 500, ", " * 500,
                     "0 1, " * 200, "0, " * 333, "1" * 5000):
            self.assert_unreadable(text)
        self.assertEqual(read_row(" ".join(["0"] * 500)).rules, [[0] * 500])
        many = [[0, 1]] + [[letter + 1] for letter in range(1, 199)] + [[0]]
        self.assertEqual(read_row(show_row(Row(many))).rules, many)
        self.assertLess(time.perf_counter() - before, 3)


class KindsTest(unittest.TestCase):
    def test_by_name(self):
        self.assertEqual(show_row(row=Row(FIB)), "0 1, 0")
        self.assertEqual(read_row(text="0 1, 0"), Row(FIB))

    def test_each_function_is_defined_in_its_file(self):
        self.assertEqual(returnrows.texts.show_row.__module__, "returnrows.texts")
        self.assertEqual(list(inspect.signature(show_row).parameters), ["row"])
        self.assertEqual(returnrows.readings.read_row.__module__, "returnrows.readings")
        self.assertEqual(list(inspect.signature(read_row).parameters), ["text"])

    def test_rows_read_twice_are_rows_of_their_own(self):
        first = read_row("0 1, 0")
        first.rules[0].append(1)
        self.assertEqual(read_row("0 1, 0").rules, FIB)
        self.assertEqual(first.rules, FIB)


if __name__ == "__main__":
    unittest.main()
