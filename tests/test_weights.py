import copy
import itertools
import unittest

import plain
from restingfixes.books import letters
from restingfixes.errors import InvalidBook, TooMany
from restingfixes.weights import weights
from samples import BOOKS, SWAP, wrong_books


def is_integer(value):
    return isinstance(value, int) and not isinstance(value, bool)


class Weights(unittest.TestCase):
    def right(self, book):
        """Look at what is told of a book by the words of the document, and return its kind."""
        told = weights(book)
        self.assertIsInstance(told, tuple)
        kind, numbers = told
        if kind == "weights":
            self.right_weights(book, numbers)
        else:
            self.assertEqual(kind, "sum")
            self.right_sum(book, numbers)
        return kind

    def right_weights(self, book, told):
        self.assertIsInstance(told, dict)
        self.assertEqual(sorted(told), list(letters(book)))
        self.assertTrue(all([is_integer(weight) and weight >= 1 for weight in told.values()]))
        for _, old, new, _ in book:
            self.assertGreater(sum([told[letter] for letter in old]), sum([told[letter] for letter in new]), book)

    def right_sum(self, book, told):
        self.assertIsInstance(told, list)
        self.assertEqual(len(told), len(book))
        self.assertTrue(all([is_integer(count) and count >= 0 for count in told]))
        self.assertGreater(sum(told), 0)
        for letter in letters(book):
            old = sum([count * fix[1].count(letter) for count, fix in zip(told, book)])
            new = sum([count * fix[2].count(letter) for count, fix in zip(told, book)])
            self.assertLessEqual(old, new, (book, told, letter))

    def test_examples(self):
        self.assertEqual(weights((("", "ab", "ba", ""),))[0], "sum")
        self.assertEqual(weights((("", "ab", "b", ""),))[0], "weights")

    def test_small_books(self):
        kinds = {"weights": 0, "sum": 0}
        books = plain.small_books(71, 400) + plain.small_books(72, 200, "a", 5) + plain.small_books(73, 400, "abcd", 5)
        books += plain.small_books(74, 600, "abcdef", 5) + [book for book in BOOKS if len(letters(book)) <= 6]
        for book in books:
            kinds[self.right(book)] += 1
        self.assertGreater(min(kinds.values()), 300)

    def test_all_books_of_two_short_fixes(self):
        words = ["".join(word) for size in range(3) for word in itertools.product("ab", repeat=size)]
        fixes = [("", old, new, "") for old in words[1:] for new in words]
        for book in itertools.product(fixes, fixes):
            self.right(book)

    def test_the_empty_book(self):
        self.assertEqual(weights(()), ("weights", {}))

    def test_letters_ahead_and_behind_have_weights(self):
        kind, told = weights((("a", "b", "", "c"),))
        self.assertEqual((kind, sorted(told)), ("weights", ["a", "b", "c"]))
        self.assertEqual(self.right((("a", "b", "bb", "c"),)), "sum")
        # Letters ahead and behind are no part of the old word.
        self.assertEqual(self.right((("a", "b", "a", ""),)), "weights")
        self.assertEqual(self.right((("a", "b", "a", ""), ("", "a", "b", "b"))), "sum")

    def test_a_fix_that_changes_nothing(self):
        for fix in (("", "a", "a", ""), ("x", "abc", "cba", "y"), SWAP):
            self.assertEqual(weights((fix,)), ("sum", [1]))
            self.assertEqual(self.right((("", "b", "", ""), fix, ("", "c", "", ""))), "sum")

    def test_a_fix_and_its_contrary(self):
        for old, new in (("a", "b"), ("ab", "cd"), ("abc", "d"), ("aab", "bba")):
            kind, told = weights((("", old, new, ""), ("", new, old, "")))
            self.assertEqual(kind, "sum")
            self.assertEqual(told[0], told[1])
            self.right((("", "x", "", ""), ("", old, new, "a"), ("b", new, old, "")))

    def test_fixes_that_may_be_left_out(self):
        kind, told = weights((("", "a", "", ""), ("", "b", "bb", ""), ("", "c", "", "")))
        self.assertEqual((kind, [count > 0 for count in told]), ("sum", [False, True, False]))

    def test_great_weights(self):
        rise = tuple([("", old, new * 3, "") for old, new in zip("abcde", "bcdef")])
        kind, told = weights(rise)
        self.assertEqual(kind, "weights")
        self.right(rise)
        self.assertGreaterEqual(told["a"], 3 * told["b"] + 1)
        self.assertGreaterEqual(told["a"], 3**5)
        self.assertEqual(self.right(rise[:4] + (("", "eee", "aaa", ""),)), "sum")

    def test_great_counts(self):
        # What three letters become is one letter twice, and what one becomes is three twice, and so
        # one fix has to be taken nine times as often as another one.
        words = (("aaa", "b"), ("bbb", "c"), ("c", "ddd"), ("d", "eee"), ("e", "a"))
        book = tuple([("", old, new, "") for old, new in words])
        kind, told = weights(book)
        self.assertEqual(kind, "sum")
        self.right(book)
        self.assertEqual([count // told[1] for count in told], [3, 1, 1, 3, 9])
        # One letter less and there are weights.
        less = book[:4] + (("", "ee", "a", ""),)
        self.assertEqual(self.right(less), "weights")

    def test_six_letters_and_seven(self):
        six = (("a", "bcd", "ef", ""),)
        self.assertEqual(len(letters(six)), 6)
        self.assertEqual(self.right(six), "weights")
        full = tuple([("", old, new, "") for old, new in (("abc", "def"), ("def", "abd"), ("ad", "bef"))])
        self.right(full + (("f", "ce", "fff", "a"), ("", "ef", "ba", "")))
        more = (("", "abc", "def", ""), ("x", "a", "", ""))
        for seven in ((("a", "bcd", "ef", "g"),), six + (("", "z", "", ""),), more):
            self.assertEqual(len(letters(seven)), 7)
            with self.assertRaises(TooMany):
                weights(seven)
        for book in BOOKS:
            if len(letters(book)) > 6:
                with self.assertRaises(TooMany):
                    weights(book)

    def test_no_book(self):
        for wrong in wrong_books():
            with self.assertRaises(InvalidBook):
                weights(wrong)

    def test_answers_are_new(self):
        for book in ((SWAP,), (("", "ab", "b", ""),), ()):
            before = copy.deepcopy(book)
            told = weights(book=book)
            expected = copy.deepcopy(told)
            if told[0] == "sum":
                told[1].append(5)
                told[1][0] = 77
            else:
                told[1]["z"] = 5
            self.assertEqual(weights(book), expected)
            self.assertEqual(book, before)
