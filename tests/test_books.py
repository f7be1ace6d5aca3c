"""Tests of the books: points 2 to 4 and the section on returnrows/books.py."""

import copy
import inspect
import itertools
import random
import unittest
from unittest import mock

from returnrows.books import Book, SmallBook
from returnrows.errors import (InvalidLetter, InvalidNumber, InvalidRules, NothingToUndo, NotMixed, RowError, TooMany)
from returnrows.rows import Row
from samples import APERIODIC, FIB, PERIODIC, RING, TRIB, TWIN, Raising

FAR = 10 ** 30
WORDS = [[], [0], [0, 1], [1, 0, 2], [-1], [FAR, -FAR], [7] * 40, [0, 0]]


def filled(book, words):
    """The book, with some words put into it."""
    for word in words:
        book.put(list(word))
    return book


def told_rules(story):
    """The words of a book behind the calls of a story."""
    words = []
    for call in story:
        if call[0] == "put":
            words.append(list(call[1]))
        else:
            words[call[1]] = list(call[2])
    return words


def state(book):
    return copy.deepcopy([book.rules, book.story(), len(book)])


class BookTest(Raising):
    def test_a_new_book_is_empty(self):
        for book in (Book(), SmallBook(0), SmallBook(3)):
            self.assertEqual(state(book), [[], [], 0])

    def test_put_adds_the_word_of_the_next_letter(self):
        book = Book()
        for many, word in enumerate(WORDS):
            self.assertIsNone(book.put(list(word)))
            self.assertEqual(book.rules, WORDS[:many + 1])
            self.assertEqual(len(book), many + 1)
            self.assertEqual(book.story(), [("put", put) for put in WORDS[:many + 1]])

    def test_change_puts_another_word_in_the_place_of_one(self):
        book = filled(Book(), WORDS)
        for letter in range(len(WORDS)):
            for word in ([], [5, -5], [letter]):
                self.assertIsNone(book.change(letter, list(word)))
                self.assertEqual(book.rules[letter], word)
                self.assertEqual(book.rules[letter + 1:], WORDS[letter + 1:])
                self.assertEqual(len(book), len(WORDS))
                self.assertEqual(book.story()[-1], ("change", letter, word))

    def test_change_of_a_letter_without_a_word(self):
        for many in (0, 1, 2, 8):
            for book in (filled(Book(), WORDS[:many]), filled(SmallBook(8), WORDS[:many])):
                before = state(book)
                for letter in (-1, -2, -many - 1, many, many + 1, FAR, -FAR):
                    if not 0 <= letter < many:
                        self.assert_error(InvalidLetter, letter, book.change, letter, [0, 1])
                        self.assertEqual(state(book), before)

    def test_a_change_by_the_same_word_is_a_call_too(self):
        book = filled(Book(), [[0, 1]])
        book.change(0, [0, 1])
        self.assertEqual(book.story(), [("put", [0, 1]), ("change", 0, [0, 1])])
        self.assertFalse(book == filled(Book(), [[0, 1]]))
        self.assertIsNone(book.undo())
        self.assertEqual(book.story(), [("put", [0, 1])])

    def test_undo_takes_back_one_call_after_the_other(self):
        book = Book()
        seen = [state(book)]
        for call in (("put", [0, 1]), ("change", 0, [0]), ("change", 0, []), ("put", []), ("change", 1, [9, 9]),
                     ("change", 0, [1]), ("put", [2])):
            getattr(book, call[0])(*call[1:])
            seen.append(state(book))
        while len(seen) > 1:
            self.assertEqual(state(book), seen.pop())
            self.assertIsNone(book.undo())
        self.assertEqual(state(book), [[], [], 0])
        self.assert_error(NothingToUndo, 0, book.undo)

    def test_nothing_to_undo(self):
        for book in (Book(), SmallBook(0), SmallBook(4)):
            for _ in range(3):
                self.assert_error(NothingToUndo, 0, book.undo)
                self.assertEqual(state(book), [[], [], 0])
        book = filled(Book(), [[0, 1]])
        book.undo()
        self.assert_error(NothingToUndo, 0, book.undo)
        book.put([0, 0])
        self.assertEqual(state(book), [[[0, 0]], [("put", [0, 0])], 1])

    def test_undo_passes_over_refused_calls(self):
        book = filled(SmallBook(2), [[0, 1], [0]])
        book.change(0, [0, 0])
        self.assert_error(TooMany, 3, book.put, [1])
        self.assert_error(InvalidLetter, 2, book.change, 2, [1])
        book.undo()
        self.assertEqual(book.rules, [[0, 1], [0]])
        self.assert_error(InvalidLetter, -1, book.change, -1, [1])
        book.undo()
        self.assertEqual(book.rules, [[0, 1]])

    def test_a_call_that_is_taken_back_is_not_taken_back_again(self):
        book = filled(Book(), [[0, 1], [0]])
        book.change(1, [1])
        book.undo()
        book.change(0, [5])
        book.undo()
        self.assertEqual(book.story(), [("put", [0, 1]), ("put", [0])])
        book.undo()
        self.assertEqual(book.rules, [[0, 1]])
        book.put([3])
        self.assertEqual(book.story(), [("put", [0, 1]), ("put", [3])])

    def test_long_sequences(self):
        for seed in range(60):
            chance = random.Random(seed)
            most = chance.choice([None, 0, 1, 3, 8, 50])
            book = Book() if most is None else SmallBook(most)
            story = []
            for _ in range(100):
                self.call_by_chance(chance, book, most, story)
                self.assertEqual(book.story(), story)
                self.assertEqual(book.rules, told_rules(story))
                self.assertEqual(len(book), len(told_rules(story)))
            while story:
                book.undo()
                story.pop()
                self.assertEqual(book.rules, told_rules(story))
            self.assert_error(NothingToUndo, 0, book.undo)

    def call_by_chance(self, chance, book, most, story):
        """Call a method of a book, and tell the story what it should have done."""
        many = len(told_rules(story))
        word = [chance.choice([-1, 0, 1, 2, FAR]) for _ in range(chance.randint(0, 4))]
        kind = chance.choice(["put", "put", "change", "undo"])
        letter = chance.randint(-2, many + 1)
        if kind == "put" and most is not None and many == most:
            self.assert_error(TooMany, many + 1, book.put, word)
        elif kind == "put":
            book.put(word)
            story.append(("put", word))
        elif kind == "change" and not 0 <= letter < many:
            self.assert_error(InvalidLetter, letter, book.change, letter, word)
        elif kind == "change":
            book.change(letter, word)
            story.append(("change", letter, word))
        elif not story:
            self.assert_error(NothingToUndo, 0, book.undo)
        else:
            book.undo()
            story.pop()

    def test_one_book_does_not_change_another(self):
        first, second = Book(), Book()
        first.put([0, 1])
        self.assertEqual(state(second), [[], [], 0])
        second.put([0, 0])
        first.change(0, [3])
        self.assertEqual(second.rules, [[0, 0]])


class SmallBookTest(Raising):
    def test_it_is_a_book(self):
        self.assertTrue(issubclass(SmallBook, Book))
        self.assertIsInstance(SmallBook(2), Book)

    def test_negative_limits(self):
        for most in (-1, -2, -FAR):
            self.assert_error(InvalidNumber, most, SmallBook, most)

    def test_no_more_words_than_the_limit(self):
        for most in (0, 1, 2, 3, 50):
            book = filled(SmallBook(most), [[0, 1]] * most)
            before = state(book)
            for word in ([0], [], [-1, FAR]):
                self.assert_error(TooMany, most + 1, book.put, word)
                self.assertEqual(state(book), before)
            self.assertEqual(len(book), most)

    def test_a_limit_far_beyond(self):
        self.assertEqual(filled(SmallBook(FAR), WORDS).rules, WORDS)

    def test_there_is_room_again_behind_undo(self):
        book = filled(SmallBook(2), [[0, 1], [0]])
        self.assert_error(TooMany, 3, book.put, [1])
        book.undo()
        self.assertIsNone(book.put([5]))
        self.assertEqual(book.rules, [[0, 1], [5]])
        self.assert_error(TooMany, 3, book.put, [1])

    def test_change_in_a_full_book(self):
        book = filled(SmallBook(2), [[0, 1], [0]])
        self.assertIsNone(book.change(1, [0, 0]))
        self.assertEqual(book.rules, [[0, 1], [0, 0]])
        self.assertEqual(book.row(), Row([[0, 1], [0, 0]]))


class EqualityTest(unittest.TestCase):
    def assert_equal_is(self, known, first, second):
        for here, there in ((first, second), (second, first)):
            self.assertIs(here == there, known)
            self.assertIs(here != there, not known)

    def test_equal_stories(self):
        for words in ([], [[]], FIB, WORDS):
            self.assert_equal_is(True, filled(Book(), words), filled(Book(), words))
            self.assert_equal_is(True, filled(SmallBook(8), words), filled(SmallBook(8), words))
            book = filled(Book(), words)
            self.assert_equal_is(True, book, book)

    def test_unlike_stories(self):
        told = [[], [[]], [[], []], [[0]], [[1]], [[0, 1], [0]], [[0, 1], [1]], [[0], [0, 1]], [[0, 1, 0]]]
        for first, second in itertools.combinations(told, 2):
            self.assert_equal_is(False, filled(Book(), first), filled(Book(), second))
            self.assert_equal_is(False, filled(SmallBook(5), first), filled(SmallBook(5), second))

    def test_the_same_rules_by_another_story(self):
        changed = filled(Book(), [[0, 1], [1]])
        changed.change(1, [0])
        self.assertEqual(changed.rules, FIB)
        self.assert_equal_is(False, changed, filled(Book(), FIB))
        other = filled(Book(), [[0, 1], [7]])
        other.change(1, [0])
        self.assert_equal_is(False, changed, other)

    def test_changes_of_unlike_letters(self):
        first, second = filled(Book(), [[0], [0]]), filled(Book(), [[0], [0]])
        first.change(0, [0])
        second.change(1, [0])
        self.assertEqual(first.rules, second.rules)
        self.assert_equal_is(False, first, second)

    def test_what_is_taken_back_does_not_count(self):
        book = filled(Book(), FIB)
        book.put([9])
        book.undo()
        book.change(0, [9])
        self.assert_equal_is(False, book, filled(Book(), FIB))
        book.undo()
        self.assert_equal_is(True, book, filled(Book(), FIB))

    def test_refused_calls_do_not_count(self):
        book = filled(SmallBook(2), FIB)
        self.assertRaises(RowError, book.put, [9])
        self.assertRaises(RowError, book.change, 2, [9])
        self.assert_equal_is(True, book, filled(SmallBook(2), FIB))

    def test_limits(self):
        for words in ([], FIB):
            self.assert_equal_is(False, filled(Book(), words), filled(SmallBook(2), words))
            self.assert_equal_is(False, filled(SmallBook(2), words), filled(SmallBook(3), words))
            self.assert_equal_is(True, filled(SmallBook(FAR), words), filled(SmallBook(FAR), words))
        self.assert_equal_is(False, Book(), SmallBook(0))
        self.assert_equal_is(True, SmallBook(0), SmallBook(0))

    def test_a_book_is_not_equal_to_anything_else(self):
        book = filled(Book(), FIB)
        for other in (FIB, Row(FIB), book.story(), None, 2, 0, "0 1, 0", (), object(), mock.ANY, Book):
            self.assertFalse(book == other)
            self.assertTrue(book != other)
        for other in ([], (), None, 0, "", False):
            self.assertFalse(Book() == other)
            self.assertFalse(SmallBook(0) == other)
        self.assertFalse(Row(FIB) == book)


class RowTest(Raising):
    def test_the_row_of_sound_rules(self):
        for rules in APERIODIC + PERIODIC + [RING]:
            for book in (filled(Book(), rules), filled(SmallBook(70), rules)):
                told = book.row()
                self.assertIs(type(told), Row)
                self.assertEqual(told.rules, rules)
                self.assertEqual(told, Row(rules))

    def test_the_errors_of_rules_that_are_none(self):
        for error, value, rules in (
                (InvalidNumber, 0, []),
                (InvalidRules, 0, [[]]),
                (InvalidRules, 1, [[5], []]),
                (InvalidRules, 2, [[0, 1], [-7], []]),
                (InvalidLetter, 2, [[0, 2], [0]]),
                (InvalidLetter, -1, [[0, 1], [-1, FAR]]),
                (InvalidLetter, FAR, [[0, FAR], [-1]]),
                (InvalidRules, 0, [[1, 0], [0, 1]]),
                (InvalidRules, 0, [[0], [0, 1]]),
                (NotMixed, 0, [[0, 0], [0]]),
                (NotMixed, 0, [[0, 1], [1]]),
        ):
            for book in (filled(Book(), rules), filled(SmallBook(3), rules)):
                before = state(book)
                self.assert_error(error, value, book.row)
                self.assertEqual(state(book), before)

    def test_a_row_that_was_told_stays_as_it_was(self):
        book = filled(Book(), FIB)
        told = book.row()
        book.change(1, [1, 0])
        self.assertEqual(told, Row(FIB))
        self.assertEqual(book.row(), Row(TWIN))
        book.undo()
        book.undo()
        self.assertEqual(told.rules, FIB)
        self.assert_error(InvalidLetter, 1, book.row)

    def test_rules_that_grow_into_a_row(self):
        book = Book()
        self.assert_error(InvalidNumber, 0, book.row)
        book.put([0, 1])
        self.assert_error(InvalidLetter, 1, book.row)
        book.put([0, 2])
        self.assert_error(InvalidLetter, 2, book.row)
        book.put([0])
        self.assertEqual(book.row(), Row(TRIB))


class KindsTest(unittest.TestCase):
    def test_passed_words_may_be_changed_afterwards(self):
        for book in (Book(), SmallBook(3)):
            word, other = [0, 1], [5]
            book.put(word)
            book.put(word)
            book.change(1, other)
            word.append(9)
            other[0] = 6
            self.assertEqual(book.rules, [[0, 1], [5]])
            self.assertEqual(book.story(), [("put", [0, 1]), ("put", [0, 1]), ("change", 1, [5])])
            book.undo()
            self.assertEqual(book.rules, [[0, 1], [0, 1]])

    def test_passed_words_are_not_changed(self):
        word = [0, 1]
        book = filled(Book(), [[0]])
        book.change(0, word)
        book.put(word)
        book.change(1, [7])
        book.undo()
        self.assertEqual(word, [0, 1])

    def test_told_lists_may_be_changed(self):
        book = filled(Book(), [[0, 1], [0]])
        book.change(1, [0, 0])
        before = state(book)
        told = book.rules
        told[0].append(7)
        told[1][0] = 3
        told.pop()
        self.assertEqual(state(book), before)
        told = book.story()
        told[0][1].append(7)
        told[2][2][0] = 3
        told.pop()
        self.assertEqual(state(book), before)
        self.assertIsNot(book.rules, book.rules)
        self.assertIsNot(book.rules[0], book.rules[0])
        self.assertIsNot(book.story(), book.story())
        self.assertIsNot(book.story()[0][1], book.story()[0][1])
        self.assertIsNot(book.story()[0][1], book.rules[0])

    def test_lists_told_before_stay_as_they_were(self):
        book = filled(Book(), [[0, 1]])
        rules, story = book.rules, book.story()
        book.change(0, [5])
        book.put([6])
        self.assertEqual(rules, [[0, 1]])
        self.assertEqual(story, [("put", [0, 1])])

    def test_kinds_of_answers(self):
        book = filled(SmallBook(3), [[0, 1], []])
        book.change(0, [2])
        self.assertIs(type(book.rules), list)
        self.assertEqual([type(word) for word in book.rules], [list, list])
        self.assertIs(type(book.story()), list)
        self.assertEqual([[type(part) for part in call] for call in book.story()],
                         [[str, list], [str, list], [str, int, list]])
        self.assertTrue(all(type(call) is tuple for call in book.story()))
        self.assertIs(type(len(book)), int)

    def test_rules_is_a_property_that_is_not_assigned(self):
        self.assertIsInstance(Book.__dict__["rules"], property)
        for book in (Book(), SmallBook(1)):
            with self.assertRaises(AttributeError):
                book.rules = FIB

    def test_by_name(self):
        for book in (Book(), SmallBook(most=3)):
            book.put(word=[0, 1])
            book.change(word=[0], letter=0)
            self.assertEqual(book.story(), [("put", [0, 1]), ("change", 0, [0])])

    def test_the_classes_define_their_own_methods(self):
        for name in ("rules", "put", "change", "undo", "row", "story", "__len__", "__eq__", "__init__"):
            self.assertIn(name, Book.__dict__)
        for name in ("put", "__init__"):
            self.assertIn(name, SmallBook.__dict__)
        for kind in (Book, SmallBook):
            self.assertEqual(kind.__module__, "returnrows.books")
        for function, names in ((Book, []), (SmallBook, ["most"]), (Book.put, ["self", "word"]),
                                (SmallBook.put, ["self", "word"]), (Book.change, ["self", "letter", "word"]),
                                (Book.undo, ["self"]), (Book.row, ["self"]), (Book.story, ["self"])):
            self.assertEqual(list(inspect.signature(function).parameters), names)


if __name__ == "__main__":
    unittest.main()
