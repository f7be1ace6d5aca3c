"""Tests of the whole document over the whole program: the interface, and points 2 and 3 for all functions."""

import ast
import copy
import importlib
import inspect
import pathlib
import time
import unittest

from returnrows.books import Book, SmallBook
from returnrows.errors import RowError
from returnrows.far import return_at, return_place
from returnrows.levels import ladder, level, widths
from returnrows.parting import alike, are_equal, kin, parting
from returnrows.periods import is_periodic, period
from returnrows.places import count_to, letter_at, piece
from returnrows.readings import read_row
from returnrows.returns import return_row, return_rules, returns
from returnrows.rows import Row
from returnrows.texts import show_row
from samples import (APERIODIC, FIB, MANY_RETURNS, PERIODIC, RING, RING_60, TWIN, TWO_LONG, WIDE_AT_1, chain,
                     even_runs, runs, twice)

PACKAGE = pathlib.Path(__file__).resolve().parent.parent / "returnrows"
FAR = 10 ** 30
FUNCTIONS = {
    "places": {"letter_at": ["row", "place"], "count_to": ["row", "letter", "place"],
               "piece": ["row", "place", "length"]},
    "returns": {"returns": ["row"], "return_rules": ["row"], "return_row": ["row"]},
    "levels": {"level": ["row", "number"], "ladder": ["row"], "widths": ["row"]},
    "parting": {"parting": ["row", "other"], "are_equal": ["row", "other"], "alike": ["row", "other"],
                "kin": ["row", "other"]},
    "periods": {"period": ["row"], "is_periodic": ["row"]},
    "far": {"return_place": ["row", "number", "index"], "return_at": ["row", "number", "place"]},
    "texts": {"show_row": ["row"]},
    "readings": {"read_row": ["text"]},
}
CLASSES = {
    "errors": {"RowError": [], "InvalidLetter": [], "InvalidRules": [], "InvalidNumber": [], "NotMixed": [],
               "TooMany": [], "NothingToUndo": [], "Unreadable": []},
    "rows": {"Row": ["__init__", "rules", "__eq__"]},
    "books": {"Book": ["__init__", "rules", "put", "change", "undo", "row", "story", "__len__", "__eq__"],
              "SmallBook": ["__init__", "put"]},
}


def answers(row, other):
    """What all functions tell of two rows, as plain values; a raised error counts as an answer."""
    calls = [
        lambda: row.rules,
        lambda: [letter_at(row, FAR), count_to(row, 0, FAR), piece(row, FAR, 400)],
        lambda: [returns(row), return_rules(row), return_row(row).rules],
        lambda: [[level(row, number).rules for number in range(6)], ladder(row), widths(row)],
        lambda: parting(row, other),
        lambda: are_equal(row, other),
        lambda: alike(row, other),
        lambda: kin(row, other),
        lambda: [period(row), is_periodic(row)],
        lambda: [(return_place(row, number, FAR), return_at(row, number, FAR)) for number in range(6)],
        lambda: show_row(row),
        lambda: read_row(show_row(row)).rules,
    ]
    told = []
    for call in calls:
        try:
            told.append(call())
        except RowError as error:
            told.append((type(error).__name__, error.value))
    return told


def lists_in(told):
    """All lists within an answer, itself too."""
    if isinstance(told, (list, tuple)):
        for part in told:
            yield from lists_in(part)
    if isinstance(told, list):
        yield told


class InterfaceTest(unittest.TestCase):
    def test_functions_and_their_arguments(self):
        for name, functions in FUNCTIONS.items():
            module = importlib.import_module("returnrows." + name)
            for function, names in functions.items():
                parameters = inspect.signature(getattr(module, function)).parameters.values()
                self.assertEqual([parameter.name for parameter in parameters], names)
                for parameter in parameters:
                    self.assertIs(parameter.kind, inspect.Parameter.POSITIONAL_OR_KEYWORD)
                    self.assertIs(parameter.default, inspect.Parameter.empty)

    def test_all_are_defined_in_the_file_that_lists_them(self):
        for name in sorted(set(FUNCTIONS) | set(CLASSES)):
            tree = ast.parse((PACKAGE / (name + ".py")).read_text(encoding="utf-8"))
            functions = {node.name for node in tree.body if isinstance(node, ast.FunctionDef)}
            classes = {node.name: node for node in tree.body if isinstance(node, ast.ClassDef)}
            self.assertLessEqual(set(FUNCTIONS.get(name, [])), functions)
            for kind, methods in CLASSES.get(name, {}).items():
                own = {node.name for node in classes[kind].body if isinstance(node, ast.FunctionDef)}
                self.assertLessEqual(set(methods), own)


class ArgumentsTest(unittest.TestCase):
    def test_rows_never_change(self):
        for rules in APERIODIC + PERIODIC + [RING_60, RING, WIDE_AT_1]:
            passed = copy.deepcopy(rules)
            row, other = Row(passed), Row(TWIN)
            first = copy.deepcopy(answers(row, other))
            self.assertEqual(passed, rules)
            passed[0].append(0)
            passed.pop()
            self.assertEqual(answers(row, other), first)
            self.assertEqual(row.rules, rules)
            self.assertEqual(other.rules, TWIN)

    def test_every_told_list_is_new(self):
        for rules in APERIODIC + PERIODIC + [RING]:
            row, other = Row(rules), Row(FIB)
            first = copy.deepcopy(answers(row, other))
            told = list(lists_in(answers(row, other)))
            self.assertEqual(len({id(part) for part in told}), len(told))
            for part in told:
                part.append(99)
            self.assertEqual(answers(row, other), first)

    def test_told_values_may_be_passed_on(self):
        row = read_row(show_row(Row(return_rules(return_row(level(Row(TWIN), 1))))))
        self.assertEqual(row, level(Row(TWIN), 3))
        book = SmallBook(len(row.rules))
        for word in row.rules:
            book.put(word)
        self.assertEqual(book.row(), row)
        self.assertEqual(Row(returns(Row([[0, 1], [0]]))), Row(FIB))
        index, letter, offset = return_at(row, 2, FAR)
        self.assertEqual(return_place(row, 2, index) + offset, FAR)
        self.assertEqual(letter_at(level(row, 2), index), letter)


class LimitsTest(unittest.TestCase):
    def test_the_limits_are_served_without_delay(self):
        small = [[[0, 1, 2], [2, 2, 1], [1, 0, 0]], [[0, 3], [2, 2], [1, 0], [1, 3]], [[0, 2, 1], [2, 0, 0], [1, 1, 2]]]
        for rules in small + [twice(rules) for rules in small] + [
                RING, RING_60, TWO_LONG, MANY_RETURNS, WIDE_AT_1, chain(60), chain(70), runs(60), even_runs(59)]:
            row, other = Row(rules), Row(rules)
            before = time.perf_counter()
            answers(row, other)
            for number in (0, 30, 60):
                try:
                    level(row, number)
                    return_at(row, number, return_place(row, number, FAR))
                except RowError as error:
                    self.assertIn(error.value, (0, 1))
            self.assertLess(time.perf_counter() - before, 10)

    def test_many_calls_on_a_book(self):
        before = time.perf_counter()
        book = Book()
        for word in RING:
            book.put(word)
        for letter in range(70):
            book.change(letter, TWO_LONG[letter])
            self.assertEqual(len(book.story()), 71 + letter)
        self.assertEqual(book.row(), Row(TWO_LONG))
        for _ in range(70):
            book.undo()
        self.assertEqual(book.row(), Row(RING))
        self.assertLess(time.perf_counter() - before, 5)


if __name__ == "__main__":
    unittest.main()
