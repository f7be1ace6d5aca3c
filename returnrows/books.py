"""Books: rules that grow, word by word, and calls that are taken back."""

from returnrows.checks import check_number
from returnrows.errors import InvalidLetter, NothingToUndo, TooMany
from returnrows.rows import Row


class Book:
    """Rules that grow, at first none."""

    def __init__(self):
        self._words = []
        self._calls = []
        # For each call the word that it put another one in the place of; a call of put has none.
        self._replaced = []
        self._most = None

    @property
    def rules(self):
        """A new list of the words, each of them new."""
        return [list(word) for word in self._words]

    def put(self, word):
        """Add the word of the next letter."""
        kept = tuple(word)
        self._words.append(kept)
        self._calls.append(("put", kept))
        self._replaced.append(None)

    def change(self, letter, word):
        """Put another word in the place of that of a letter."""
        if letter < 0 or letter >= len(self._words):
            raise InvalidLetter(letter)
        kept = tuple(word)
        self._replaced.append(self._words[letter])
        self._words[letter] = kept
        self._calls.append(("change", letter, kept))

    def undo(self):
        """Take back the last call of put or change that is not taken back yet."""
        if len(self._calls) == 0:
            raise NothingToUndo(0)
        call = self._calls.pop()
        replaced = self._replaced.pop()
        if replaced is None:
            self._words.pop()
        else:
            self._words[call[1]] = replaced

    def row(self):
        """Return the row of the rules."""
        return Row(self.rules)

    def story(self):
        """Return the list of the calls that are not taken back."""
        # The word is the last thing of each call; callers may change the list as which it is told.
        return [call[:-1] + (list(call[-1]),) for call in self._calls]

    def __len__(self):
        return len(self._words)

    def __eq__(self, other):
        if not isinstance(other, Book):
            return False
        return self._most == other._most and self._calls == other._calls


class SmallBook(Book):
    """Rules that grow up to so many words."""

    def __init__(self, most):
        check_number(most)
        Book.__init__(self)
        self._most = most

    def put(self, word):
        """Add the word of the next letter, if there is room for it."""
        many = len(self._words) + 1
        if many > self._most:
            raise TooMany(many)
        super().put(word)
