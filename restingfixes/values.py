"""Rows of rounds as values: equal if they make the same of all texts."""

from restingfixes.books import check_text, is_book
from restingfixes.errors import InvalidRow
from restingfixes.likeness import check_rows, first_parted
from restingfixes.rounds import mended

MOST_BOOKS = 6


class Row:
    """Some books, each done in one round, one behind the other."""

    def __init__(self, books):
        if not isinstance(books, list) or len(books) > MOST_BOOKS:
            raise InvalidRow("a row is a list of at most 6 books")
        if not all([is_book(book) for book in books]):
            raise InvalidRow("a row holds books alone")
        self._books = list(books)

    @property
    def books(self):
        """A new list of the books."""
        return list(self._books)

    def __call__(self, text):
        """Return what the rounds make of a text."""
        check_text(text)
        now = text
        for book in self._books:
            now = mended(book, now)
        return now

    def __rshift__(self, other):
        """Return the Row of these books and behind them those of other."""
        if not isinstance(other, Row):
            raise InvalidRow("a Row stands behind the sign")
        return Row(self._books + other.books)

    def __eq__(self, other):
        if not isinstance(other, Row):
            return False
        return self.parted(other) is None

    def __ne__(self, other):
        return not self == other

    def __len__(self):
        return len(self._books)

    def __iter__(self):
        return iter(self._books)

    def __contains__(self, value):
        """Tell whether a value is one of the books."""
        return value in self._books

    def parted(self, other):
        """Return a shortest text of which two rows make unlike texts, None if there is none."""
        if not isinstance(other, Row):
            raise InvalidRow("a Row is asked for")
        ones, others = self.books, other.books
        check_rows(ones + others, len(ones) + len(others))
        return first_parted(ones, others)
