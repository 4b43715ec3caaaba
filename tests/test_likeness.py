import copy
import unittest

import plain
from restingfixes.errors import InvalidBook, InvalidNumber, TooMany
from restingfixes.likeness import alike, not_twice, parted
from samples import BOOKS, SWAP, wide_book, wrong_books, wrong_numbers

DROP_A = ("", "a", "", "")
SMALL = plain.small_books(12, 60) + plain.small_books(13, 20, "a", 4)
# Each small book beside itself, the next one, and itself with fixes in another order, put in, left out.
PAIRS = [(book, SMALL[at - 1]) for at, book in enumerate(SMALL)]
PAIRS += [(book, book) for book in SMALL[::4]]
PAIRS += [(book, book[::-1]) for book in SMALL]
PAIRS += [(book, book[:-1]) for book in SMALL[::2]]
PAIRS += [(book, book + book[:1]) for book in SMALL[1::2]]
PAIRS += [(book, ((book[0][0], book[0][1], book[0][1], book[0][3]),) + book[1:]) for book in SMALL[::3]]

# For each number of rounds in both rows together, letters looked at and the most symbols without TooMany.
BOUNDS = {
    2: [(1, 21), (2, 26), (3, 8), (4, 4), (5, 2)],
    3: [(1, 21), (2, 17), (3, 4), (4, 2), (5, 2)],
    4: [(1, 21), (2, 8), (3, 2), (4, 2), (5, 1)],
    6: [(1, 21), (2, 4), (3, 2), (4, 1), (5, 1)],
}


def size(rounds, *books):
    return len(plain.symbols(*books)) ** ((plain.looked_at(*books) - 1) * rounds)


class Examples(unittest.TestCase):
    def test_parted(self):
        self.assertEqual(parted((SWAP,), (DROP_A,), 1), "a")

    def test_not_twice(self):
        self.assertIsNone(not_twice((DROP_A,)))


class Parted(unittest.TestCase):
    def test_all_short_texts(self):
        for one, other in PAIRS:
            for many in range(4):
                if size(2 * many, one, other) <= 5000:
                    self.look_at(one, other, many)

    def look_at(self, one, other, many):
        told = parted(one, other, many)
        self.assertIs(alike(one, other, many), told is None)
        signs = plain.symbols(one, other)
        most = 5 if len(signs) < 4 else 4
        if told is not None:
            self.assertNotEqual(plain.behind(one, told, many), plain.behind(other, told, many))
            most = min(most, len(told) - 1)
        for text in plain.texts(signs, most):
            same = plain.behind(one, text, many) == plain.behind(other, text, many)
            self.assertTrue(same, (one, other, many, told, text))

    def test_no_rounds(self):
        for one, other in PAIRS + [(wide_book(26, 5), wide_book(25, 5)), ((), wide_book(26, 5))]:
            self.assertIsNone(parted(one, other, 0))
            self.assertIs(alike(one, other, 0), True)

    def test_a_book_and_itself(self):
        for book in SMALL + BOOKS:
            for many in range(4):
                if size(2 * many, book) <= 5000:
                    self.assertIs(alike(book, book, many), True)

    def test_fixes_in_another_order(self):
        one, other = ("", "ab", "c", ""), ("", "bc", "a", "")
        # At one place there is only one of them, so their order does not matter.
        self.assertIs(alike((one, other), (other, one), 2), True)
        self.assertEqual(parted((one, ("", "a", "", "")), (("", "a", "", ""), one), 1), "ab")

    def test_fixes_put_in_and_left_out(self):
        one = ("", "a", "b", "")
        # A fix that stands behind one that finds all it does is never taken.
        self.assertIs(alike((one,), (one, one), 3), True)
        self.assertIs(alike((one,), (one, ("", "ab", "", "c")), 1), True)
        self.assertEqual(parted((one,), (one, ("", "ba", "", "")), 1), "ba")
        self.assertEqual(len(parted((one,), (("", "aaa", "bb", ""), one), 1)), 3)
        self.assertIs(alike((), (("", "aaa", "aaa", ""), ("a", "b", "b", "")), 1), True)
        self.assertEqual(parted((), (one,), 3), "a")

    def test_fixes_that_no_text_can_tell_apart(self):
        # What is asked for ahead and behind may be a part of the word as well.
        self.assertIs(alike((("a", "b", "c", ""),), (("", "ab", "ac", ""),), 1), True)
        self.assertIs(alike((("a", "a", "b", ""),), (("", "aa", "ab", ""),), 1), False)
        self.assertEqual(parted((("a", "a", "b", ""),), (("", "aa", "ab", ""),), 1), "aaa")
        self.assertEqual(parted((("", "a", "", "a"),), (("a", "a", "", ""),), 1), None)
        self.assertIs(alike((("", "aa", "a", ""),), (("", "aa", "", ""), ("", "a", "", "a")), 1), False)

    def test_books_with_different_letters(self):
        self.assertEqual(parted((("", "a", "b", ""),), (("", "c", "d", ""),), 1), "a")
        self.assertEqual(parted((("", "c", "d", ""),), (("", "z", "y", ""),), 2), "c")
        self.assertIs(alike((("", "c", "c", ""),), (("", "z", "z", ""),), 3), True)
        self.assertEqual(parted((("", "a", "x", ""),), (("", "a", "y", ""),), 1), "a")

    def test_more_than_one_round(self):
        # After two rounds the long way is as far as the short one.
        long, short = (("", "a", "b", ""), ("", "b", "c", "")), (("", "a", "c", ""), ("", "b", "c", ""))
        self.assertEqual(parted(long, short, 1), "a")
        self.assertIs(alike(long, short, 2), True)
        self.assertIs(alike(long, short, 3), True)
        turn, back = (("", "a", "b", ""), ("", "b", "a", "")), ()
        self.assertEqual([alike(turn, back, many) for many in range(4)], [True, False, True, False])

    def test_words_that_one_of_both_tells_ahead_of_the_other(self):
        one, other = (("", "aab", "aab", ""), ("", "aaa", "aaa", "")), (("", "a", "a", ""),)
        self.assertIs(alike(one, other, 1), True)
        one, other = (("", "aaa", "b", ""), ("", "a", "", "")), (("", "a", "", ""),)
        self.assertEqual(parted(one, other, 1), "aaa")

    def test_a_text_longer_than_a_fix(self):
        one, other = (("", "aa", "a", ""),), (("", "aaa", "aa", ""), ("", "aa", "a", ""))
        self.assertEqual(parted(one, other, 1), "aaaa")
        self.look_at(one, other, 1)
        one, other = (("", "aa", "a", ""),), (("", "aa", "", "a"), ("", "aa", "a", ""))
        for many in range(2):
            self.look_at(one, other, many)


class NotTwice(unittest.TestCase):
    def test_all_short_texts(self):
        for book in SMALL + [(), (SWAP,), (DROP_A,)]:
            if size(3, book) <= 5000:
                told = not_twice(book)
                most = 5
                if told is not None:
                    self.assertNotEqual(plain.behind(book, told, 1), plain.behind(book, told, 2))
                    most = min(most, len(told) - 1)
                for text in plain.texts(plain.symbols(book), most):
                    self.assertEqual(plain.behind(book, text, 1), plain.behind(book, text, 2), (book, told, text))

    def test_some_books(self):
        self.assertIsNone(not_twice(()))
        self.assertIsNone(not_twice((("", "a", "a", ""),)))
        self.assertEqual(not_twice((SWAP,)), "aab")
        self.assertEqual(not_twice((("", "a", "b", ""), ("", "b", "", ""))), "a")
        self.assertEqual(not_twice((("", "aa", "a", ""),)), "aaa")
        self.assertIsNone(not_twice((("a", "a", "", ""),)))


class Errors(unittest.TestCase):
    def test_no_book(self):
        for wrong in wrong_books():
            with self.assertRaises(InvalidBook):
                not_twice(wrong)
            for function in (alike, parted):
                for one, other in ((wrong, ()), ((), wrong), (wrong, wide_book(26, 5)), (None, wrong)):
                    for many in (1, None, 4):
                        with self.assertRaises(InvalidBook):
                            function(one, other, many)

    def test_no_number(self):
        for wrong in wrong_numbers(0, 3):
            for one in BOOKS + [wide_book(26, 5)]:
                for function in (alike, parted):
                    with self.assertRaises(InvalidNumber):
                        function(one, (SWAP,), wrong)
                    with self.assertRaises(InvalidNumber):
                        function((SWAP,), one, wrong)

    def test_just_at_the_bounds_and_just_beyond(self):
        for rounds, rows in BOUNDS.items():
            for looked_at, signs in rows:
                for calls in self.calls(rounds):
                    self.at_and_beyond(calls, rounds, looked_at, signs)

    def calls(self, rounds):
        if rounds == 3:
            return [not_twice]
        many = rounds // 2
        return [
            lambda book: parted(book, book, many),
            lambda book: parted(book, book[:3], many),
            lambda book: alike(book, book[::-1], many),
            lambda book: alike(book[:1], book, many),
        ]

    def at_and_beyond(self, function, rounds, looked_at, signs):
        if signs > 1:
            self.assertLessEqual(size(rounds, wide_book(signs, looked_at)), 5000)
            function(wide_book(signs, looked_at))
        if (signs + 1) ** ((looked_at - 1) * rounds) > 5000:
            with self.assertRaises(TooMany):
                function(wide_book(signs + 1, looked_at))
        else:
            self.assertGreaterEqual(signs, 21)

    def test_letters_of_both_books_count_together(self):
        one, other = (("", "ab", "", ""),), (("", "cd", "", ""),)
        self.assertEqual(parted(one, one, 3), None)
        for function in (alike, parted):
            with self.assertRaises(TooMany):
                function(one, other, 3)
        # The one looks at many letters, the other one has many of them.
        one, other = (("a", "aaa", "", ""),), (("", "b", "cde", ""),)
        self.assertTrue(size(4, one) <= 5000 and size(4, other) <= 5000 < size(4, one, other))
        with self.assertRaises(TooMany):
            parted(one, other, 2)

    def test_by_name_and_equal_answers(self):
        for one, other in PAIRS[::9]:
            if size(2, one, other) <= 5000:
                before = copy.deepcopy((one, other))
                told = parted(one=one, other=other, many=1)
                self.assertEqual(told, parted(one, other, 1))
                self.assertIs(alike(one=one, other=other, many=1), told is None)
                self.assertEqual((one, other), before)
        self.assertEqual(not_twice(book=(SWAP,)), not_twice((SWAP,)))
