import copy
import itertools
import unittest

import plain
from restingfixes.errors import InvalidBook, InvalidNumber, TooMany
from restingfixes.resting import put_out, restless, rounds_needed
from samples import BOOKS, SWAP, wide_book, wrong_books, wrong_numbers

DROP = ("", "b", "", "")
TO_D, TO_C = ("", "c", "d", ""), ("", "d", "c", "")

BOOKS_HERE = plain.small_books(4, 50) + plain.small_books(5, 15, "a", 4) + [
    (),
    (SWAP,),
    (DROP,),
    (("", "a", "a", ""),),
    (("", "aa", "a", ""),),
    (("", "b", "", ""), ("", "aa", "c", "")),
    (("a", "b", "", ""), ("", "b", "ab", "a")),
    (("", "a", "b", "b"), ("b", "b", "a", "")),
    (("", "ab", "", ""), ("", "a", "bab", "a"), ("b", "bb", "a", "")),
    (("", "aba", "b", ""), ("", "bb", "", "")),
]

# For each number of rounds, letters looked at and the most symbols with which no TooMany comes.
BOUNDS = [
    [(1, 21), (2, 26), (3, 24), (4, 17), (5, 8)],
    [(1, 21), (2, 26), (3, 8), (4, 4), (5, 2)],
    [(1, 21), (2, 17), (3, 4), (4, 2), (5, 2)],
    [(1, 21), (2, 8), (3, 2), (4, 2), (5, 1)],
]
BOUNDS_TO_PUT_OUT = [
    [(1, 21), (2, 26), (3, 24), (4, 10), (5, 5)],
    [(1, 21), (2, 26), (3, 5), (4, 3), (5, 2)],
    [(1, 21), (2, 10), (3, 3), (4, 2), (5, 1)],
    [(1, 21), (2, 5), (3, 2), (4, 1), (5, 1)],
]


def is_at_rest(book, text, many):
    return not plain.findings(book, plain.behind(book, text, many))


class Examples(unittest.TestCase):
    def test_restless(self):
        self.assertEqual(restless((SWAP,), 0), "ab")

    def test_rounds_needed(self):
        self.assertEqual(rounds_needed((DROP,)), 1)
        self.assertIsNone(rounds_needed((SWAP,)))

    def test_put_out(self):
        self.assertEqual(put_out((DROP, SWAP, TO_D, TO_C), 1), [1, 2])


class Restless(unittest.TestCase):
    def test_all_short_texts(self):
        for book in BOOKS_HERE:
            for many in range(4):
                if len(plain.symbols(book)) ** ((plain.looked_at(book) - 1) * (many + 1)) <= 5000:
                    self.look_at(book, many)

    def look_at(self, book, many):
        told = restless(book, many)
        signs = plain.symbols(book)
        most = 5 if len(signs) < 4 else 4
        if told is not None:
            self.assertFalse(is_at_rest(book, told, many), (book, many, told))
            most = min(most, len(told) - 1)
        for text in plain.texts(signs, most):
            self.assertTrue(is_at_rest(book, text, many), (book, many, told, text))

    def test_short_texts_told(self):
        self.assertEqual(restless((("", "a", "", ""),), 0), "a")
        self.assertEqual(restless((("a", "b", "", "c"),), 0), "abc")
        self.assertEqual(restless((("", "a", "", ""), ("", "b", "a", "")), 1), "b")
        self.assertEqual(restless((SWAP,), 1), "aab")
        self.assertEqual(len(restless((SWAP,), 2)), 4)
        self.assertEqual(len(restless((SWAP,), 3)), 5)
        self.assertEqual(restless((("", "a", "a", ""),), 3), "a")

    def test_letters_that_stand_in_no_fix_may_be_needed(self):
        # Only beside another letter than a and b is the first fix left to do.
        book = (("", "a", "", "a"), ("", "a", "", "b"), ("b", "a", "b", ""), ("", "b", "", "a"), ("", "b", "", "b"))
        for many in range(2):
            self.look_at(book, many)

    def test_a_text_longer_than_any_gone_through(self):
        # Each round halves a row of letters, so it takes 2 ** many + 1 of them.
        book = (("", "aa", "a", ""),)
        for many in range(4):
            self.assertEqual(restless(book, many), "a" * (2**many + 1))
        book = (("a", "a", "", ""),)
        self.assertIsNone(restless(book, 1))
        book = (("", "aaa", "a", ""),)
        self.assertEqual([restless(book, many) for many in range(2)], ["aaa", "aaaaa"])

    def test_none_for_a_book_without_fixes(self):
        for many in range(4):
            self.assertIsNone(restless((), many))

    def test_equal_answers_by_name(self):
        for book in BOOKS_HERE[-8:]:
            before = copy.deepcopy(book)
            self.assertEqual(restless(book=book, many=1), restless(book, 1))
            self.assertEqual(put_out(book=book, many=0), put_out(book, 0))
            self.assertEqual(book, before)


class RoundsNeeded(unittest.TestCase):
    def test_by_restless(self):
        for book in BOOKS_HERE:
            try:
                expected = None
                for many in reversed(range(4)):
                    expected = many if restless(book, many) is None else expected
            except TooMany:
                continue
            self.assertEqual(rounds_needed(book), expected, book)

    def test_each_number(self):
        chain = [("", "a", "b", ""), ("", "b", "c", ""), ("", "c", "d", ""), ("", "d", "e", "")]
        for many in range(4):
            self.assertEqual(rounds_needed(tuple(chain[:many])), many)
            self.assertEqual(rounds_needed(book=tuple(chain[:many])), many)
        self.assertIsNone(rounds_needed(tuple(chain)))
        self.assertIsNone(rounds_needed((("", "a", "a", ""),)))

    def test_too_many_only_where_it_comes_to_it(self):
        # One round is enough, and so three rounds, which would be too many, are not looked at.
        book = (("", "bbb", "a", ""), ("", "c", "a", ""))
        self.assertEqual(len(plain.symbols(book)) ** (2 * 4), 65536)
        self.assertEqual(rounds_needed(book), 1)
        for wrong in (wide_book(9, 5), wide_book(18, 4), wide_book(4, 4)):
            with self.assertRaises(TooMany):
                rounds_needed(wrong)


class PutOut(unittest.TestCase):
    def test_the_least_of_the_shortest_lists(self):
        for book in BOOKS_HERE + [(DROP, SWAP, TO_D, TO_C), (SWAP, DROP, SWAP), (TO_D, TO_C), (TO_C, DROP, TO_D)]:
            for many in range(4):
                if len(plain.symbols(book)) ** ((plain.looked_at(book) - 1) * (many + 1)) <= 1000:
                    self.assertEqual(put_out(book, many), self.expected(book, many), (book, many))

    def expected(self, book, many):
        for size in range(len(book) + 1):
            for numbers in itertools.combinations(range(len(book)), size):
                if restless(tuple([fix for n, fix in enumerate(book) if n not in numbers]), many) is None:
                    return list(numbers)

    def test_some_lists(self):
        self.assertEqual(put_out((), 0), [])
        self.assertEqual(put_out((DROP,), 0), [0])
        self.assertEqual(put_out((DROP,), 1), [])
        self.assertEqual(put_out((SWAP, DROP, SWAP), 0), [0, 1, 2])
        self.assertEqual(put_out((TO_D, TO_C), 3), [0])
        self.assertEqual(put_out((TO_D, DROP, TO_C), 1), [0])
        self.assertEqual(put_out((("", "a", "a", ""), TO_D, ("", "b", "bb", "")), 2), [0, 2])

    def test_the_list_is_new(self):
        book = (TO_D, TO_C)
        told = put_out(book=book, many=1)
        told.append(7)
        self.assertEqual(put_out(book, 1), [0])
        self.assertEqual(book, (TO_D, TO_C))


class Errors(unittest.TestCase):
    def test_no_book(self):
        for wrong in wrong_books():
            with self.assertRaises(InvalidBook):
                rounds_needed(wrong)
            for many in (0, None, 4, True):
                for function in (restless, put_out):
                    with self.assertRaises(InvalidBook):
                        function(wrong, many)

    def test_no_number(self):
        for wrong in wrong_numbers(0, 3):
            for book in BOOKS + [wide_book(9, 5), wide_book(26, 5)]:
                for function in (restless, put_out):
                    with self.assertRaises(InvalidNumber):
                        function(book, wrong)

    def test_just_at_the_bounds_and_just_beyond(self):
        for many in range(4):
            for looked_at, signs in BOUNDS[many]:
                self.at_and_beyond(restless, 5000, many, looked_at, signs)
            for looked_at, signs in BOUNDS_TO_PUT_OUT[many]:
                self.at_and_beyond(put_out, 1000, many, looked_at, signs)

    def at_and_beyond(self, function, most, many, looked_at, signs):
        exponent = (looked_at - 1) * (many + 1)
        if signs > 1:
            book = wide_book(signs, looked_at)
            self.assertEqual((len(plain.symbols(book)), plain.looked_at(book)), (signs, looked_at))
            self.assertLessEqual(signs**exponent, most)
            function(book, many)
        if (signs + 1) ** exponent > most:
            with self.assertRaises(TooMany):
                function(wide_book(signs + 1, looked_at), many)
        else:
            self.assertGreaterEqual(signs, 21)

    def test_the_whole_book_counts(self):
        # Without the first fix the book would be small enough.
        with self.assertRaises(TooMany):
            put_out((("a", "abc", "", "b"), DROP), 1)
        self.assertEqual(put_out((("", "ab", "", "c"), DROP), 1), [])
