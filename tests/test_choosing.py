import copy
import unittest

import plain
from restingfixes.choosing import two_ends
from restingfixes.errors import InvalidBook, TooMany
from restingfixes.rounds import ends
from samples import SWAP, wide_book, wrong_books

BOOKS_HERE = plain.small_books(21, 120) + plain.small_books(22, 30, "a", 5) + plain.small_books(23, 30, "abc")
# Letters looked at and the most symbols without TooMany.
BOUNDS = [(1, 21), (2, 24), (3, 8), (4, 4), (5, 3)]


class TwoEnds(unittest.TestCase):
    def test_example(self):
        self.assertEqual(two_ends((("", "aa", "b", ""),)), "aaa")

    def test_all_short_texts(self):
        told = {True: 0, False: 0}
        for book in BOOKS_HERE:
            if len(plain.symbols(book)) ** plain.looked_at(book) <= 600:
                told[self.look_at(book) is None] += 1
        self.assertGreater(min(told.values()), 20)

    def look_at(self, book):
        told = two_ends(book)
        signs = plain.symbols(book)
        most = 5 if len(signs) < 4 else 4
        if told is not None:
            self.assertGreater(len(ends(book, told)), 1, (book, told))
            most = min(most, len(told) - 1)
        for text in plain.texts(signs, most):
            if len(plain.findings(book, text)) < 9:
                self.assertEqual(len(plain.ends(book, text)), 1, (book, told, text))
        return told

    def test_books_with_such_a_text(self):
        self.assertEqual(two_ends((("", "a", "b", ""), ("", "a", "c", ""))), "a")
        self.assertEqual(two_ends((("", "ab", "", ""), ("", "bc", "", ""))), "abc")
        self.assertEqual(two_ends((("", "abc", "", ""), ("", "bcd", "", ""))), "abcd")
        self.assertEqual(two_ends((("", "aba", "b", ""),)), "ababa")
        # Two findings that overlap come to the same here, and it takes three to part the ends.
        self.assertEqual(ends((("", "aba", "a", ""),), "ababa"), ["aba"])
        self.assertEqual(two_ends((("", "aba", "a", ""),)), "abababa")
        # The one may go first only where the other one's letter lies ahead or behind.
        self.assertEqual(two_ends((("", "a", "", "b"), ("", "ab", "c", ""))), "ab")
        self.assertEqual(two_ends((("a", "b", "", ""), ("", "ba", "c", ""))), "aba")
        self.assertEqual(two_ends((("a", "b", "", ""), ("", "ab", "a", ""))), None)

    def test_books_without_such_a_text(self):
        self.assertIsNone(two_ends(()))
        self.assertIsNone(two_ends((SWAP,)))
        self.assertIsNone(two_ends((("", "a", "b", ""), ("", "b", "a", ""))))
        self.assertIsNone(two_ends((("a", "a", "", ""),)))
        self.assertIsNone(two_ends((("", "aaa", "aaa", ""),)))
        self.assertIsNone(two_ends((("", "aa", "aa", ""), ("", "aa", "aa", ""))))
        self.assertIsNone(two_ends((("", "a", "bb", ""), ("", "a", "bb", ""), ("", "a", "bb", ""))))
        # Both look at the same letters, but their old words share none.
        self.assertIsNone(two_ends((("a", "b", "", ""), ("", "a", "", "b"))))

    def test_lots_that_come_to_the_same_are_one_end(self):
        for many in (1, 2, 5):
            book = (("", "aa", "", ""),) * many
            self.assertEqual(ends(book, "aaa"), ["a"])
            self.assertEqual(two_ends(book), "aaaa")
        self.assertEqual(ends((("", "aa", "", ""),), "aaaa"), ["", "aa"])

    def test_texts_with_more_choices_than_ends_lets_there_be(self):
        book = (("", "a", "a", ""),) * 5
        with self.assertRaises(TooMany):
            ends(book, "aaaa")
        self.assertIsNone(two_ends(book))

    def test_no_book(self):
        for wrong in wrong_books():
            with self.assertRaises(InvalidBook):
                two_ends(wrong)

    def test_just_at_the_bounds_and_just_beyond(self):
        for looked_at, signs in BOUNDS:
            book = wide_book(signs, looked_at)
            self.assertLessEqual(len(plain.symbols(book)) ** plain.looked_at(book), 600)
            for reached in (book, book[::-1], book[:1]):
                told = two_ends(reached)
                if told is not None:
                    self.assertGreater(len(ends(reached, told)), 1)
            if (signs + 1) ** looked_at > 600:
                with self.assertRaises(TooMany):
                    two_ends(wide_book(signs + 1, looked_at))

    def test_books_at_the_bounds_that_overlap_much(self):
        for seed, (alphabet, longest) in enumerate([("ab", 3), ("abc", 3), ("abcdefg", 1), ("abcdefg", 2)] * 5):
            for book in plain.small_books(seed, 6, alphabet, 5, longest):
                if len(plain.symbols(book)) ** plain.looked_at(book) <= 600:
                    told = two_ends(book)
                    if told is not None:
                        self.assertGreater(len(ends(book, told)), 1)

    def test_by_name_and_equal_answers(self):
        for book in BOOKS_HERE[::10]:
            before = copy.deepcopy(book)
            if len(plain.symbols(book)) ** plain.looked_at(book) <= 600:
                self.assertEqual(two_ends(book=book), two_ends(book))
                self.assertEqual(book, before)
