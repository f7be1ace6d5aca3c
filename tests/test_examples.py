"""The examples of the document, as they stand there, and those of the README."""

import doctest
import pathlib
import unittest

ROWS_AND_PLACES = '''
>>> from returnrows.places import count_to, letter_at, piece
>>> from returnrows.rows import Row
>>> fib, twin = Row([[0, 1], [0]]), Row([[0, 1], [1, 0]])
>>> [letter_at(fib, 5), piece(fib, 3, 5), count_to(fib, 1, 8), letter_at(twin, 2 ** 99), letter_at(twin, 2 ** 98 - 1), count_to(twin, 1, 2 ** 99) == 2 ** 98, fib.rules, fib == Row([[0, 1], [0]])]
[0, [0, 1, 0, 1, 0], 3, 1, 0, True, [[0, 1], [0]], True]
'''

RETURNS_AND_LEVELS = '''
>>> from returnrows.levels import ladder, level, widths
>>> from returnrows.returns import return_row, return_rules, returns
>>> from returnrows.rows import Row
>>> fib, twin = Row([[0, 1], [0]]), Row([[0, 1], [1, 0]])
>>> [returns(fib), return_rules(fib), returns(twin), return_rules(twin), return_row(twin).rules, level(twin, 2).rules, ladder(fib), ladder(twin), widths(twin), returns(Row([[0, 0]])), ladder(Row([[0, 0]]))]
[[[0, 1], [0]], [[0, 1], [0]], [[0, 1, 1], [0, 1], [0]], [[0, 1, 2], [0, 2], [1]], [[0, 1, 2], [0, 2], [1]], [[0, 1], [2, 3], [0, 1, 3], [2]], (0, 1), (2, 1), [2, 3, 4], [[0]], (0, 1)]
'''

PARTING_AND_PERIODS = '''
>>> from returnrows.levels import level
>>> from returnrows.parting import alike, are_equal, kin, parting
>>> from returnrows.periods import is_periodic, period
>>> from returnrows.rows import Row
>>> fib, twin = Row([[0, 1], [0]]), Row([[0, 1], [1, 0]])
>>> [parting(fib, Row([[0, 1, 0], [1, 0]])), parting(fib, Row([[0, 1, 0], [0, 1]])), are_equal(fib, twin), alike(Row([[0, 1], [0, 2], [0]]), Row([[0, 2], [0], [0, 1]])), kin(twin, level(twin, 1)), kin(fib, fib), period(Row([[0, 1, 0], [1, 0, 1]])), period(fib), period(Row([[0, 0]])), is_periodic(twin)]
[(3, 0, 1), None, False, True, (1, 0), (0, 0), [0, 1], None, [0], False]
'''

FAR = '''
>>> from returnrows.far import return_at, return_place
>>> from returnrows.rows import Row
>>> fib = Row([[0, 1], [0]])
>>> [return_place(fib, 0, 5), return_place(fib, 1, 5), return_at(fib, 1, 6), return_at(fib, 0, 6), return_at(fib, 1, return_place(fib, 1, 10 ** 30))[::2]]
[5, 8, (3, 0, 1), (6, 1, 0), (1000000000000000000000000000000, 0)]
'''

BOOKS = '''
>>> from returnrows.books import Book, SmallBook
>>> book = Book()
>>> [book.put([0, 1]), book.put([0]), book.row().rules, book.change(1, [0, 0]), book.rules, len(book), book.story()[-1], book.undo(), book.rules, Book() == SmallBook(3)]
[None, None, [[0, 1], [0]], None, [[0, 1], [0, 0]], 2, ('change', 1, [0, 0]), None, [[0, 1], [0]], False]
'''

TEXTS_AND_READINGS = '''
>>> from returnrows.readings import read_row
>>> from returnrows.rows import Row
>>> from returnrows.texts import show_row
>>> [show_row(Row([[0, 1], [0]])), read_row("0 1, 1 0").rules, read_row("0 0") == Row([[0, 0]])]
['0 1, 0', [[0, 1], [1, 0]], True]
'''


class ExamplesTest(unittest.TestCase):
    def assert_holds(self, text, name):
        examples = doctest.DocTestParser().get_doctest(text, {}, name, None, 0)
        self.assertGreater(len(examples.examples), 0)
        told = []
        result = doctest.DocTestRunner(verbose=False).run(examples, out=told.append)
        self.assertEqual(result.failed, 0, "".join(told))

    def test_rows_and_places(self):
        self.assert_holds(ROWS_AND_PLACES, "rows and places")

    def test_returns_and_levels(self):
        self.assert_holds(RETURNS_AND_LEVELS, "returns and levels")

    def test_parting_and_periods(self):
        self.assert_holds(PARTING_AND_PERIODS, "parting and periods")

    def test_far(self):
        self.assert_holds(FAR, "far")

    def test_books(self):
        self.assert_holds(BOOKS, "books")

    def test_texts_and_readings(self):
        self.assert_holds(TEXTS_AND_READINGS, "texts and readings")

    def test_readme(self):
        readme = pathlib.Path(__file__).resolve().parent.parent / "README.md"
        # A fence would be taken for a part of the answer above it.
        lines = [line for line in readme.read_text(encoding="utf-8").split("\n") if not line.startswith("```")]
        self.assert_holds("\n".join("" if line.startswith("#") else line for line in lines), "README")


if __name__ == "__main__":
    unittest.main()
