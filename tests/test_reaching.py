import copy
import unittest

import plain
from restingfixes.errors import InvalidBook, InvalidNumber, TooMany
from restingfixes.reaching import apart, far, reach
from samples import BOOKS, SWAP, wide_book, wrong_books, wrong_numbers

AHEAD, PAIR = (("b", "a", "c", ""),), (("", "aa", "b", ""),)
BOOKS_HERE = plain.small_books(41, 60) + plain.small_books(42, 20, "a", 4) + plain.small_books(43, 10, "abc") + [
    (),
    (SWAP,),
    AHEAD,
    PAIR,
    (("", "aaa", "", ""),),
    (("a", "a", "", ""),),
    (("", "aa", "", "b"), ("", "ab", "", "")),
    (("", "aba", "", ""),),
    (("a", "a", "", "a"), ("", "ab", "", "a")),
    (("", "aab", "", ""), ("", "b", "", "a")),
    (("", "ab", "", ""), ("", "bc", "", ""), ("", "cd", "", ""), ("", "de", "", "")),
]
# Letters looked at and the most symbols without TooMany.
BOUNDS = [(1, 21), (2, 24), (3, 8), (4, 4), (5, 3)]


def is_small(book):
    return len(plain.symbols(book)) ** plain.looked_at(book) <= 600


def greatest_place(book):
    """The greatest place of unlike findings in all short texts, -1 if there is none."""
    longest = 3 if len(plain.symbols(book)) < 4 else 2
    pasts = list(plain.texts(plain.symbols(book), longest))
    greatest = -1
    for rest in plain.texts(plain.symbols(book), longest + 1):
        told = {frozenset(plain.taken_in_rest(book, past, rest)) for past in pasts}
        for one in told:
            for other in told:
                greatest = max([greatest] + [place for place, _ in one ^ other])
    return greatest


class Reach(unittest.TestCase):
    def test_example(self):
        self.assertEqual(reach(AHEAD), 1)
        self.assertIsNone(reach(PAIR))

    def test_all_short_texts(self):
        told = {}
        for book in BOOKS_HERE:
            if is_small(book):
                number = reach(book)
                told[number] = told.get(number, 0) + 1
                if number is not None:
                    self.assertLess(greatest_place(book), number, book)
                    self.assertIsNone(far(book, number))
                    if number > 0:
                        self.unlike(book, far(book, number - 1), number - 1)
        # No kind of answer went unlooked at.
        self.assertTrue({0, 1, 2, 3, None} <= set(told), told)

    def unlike(self, book, told, many):
        """Ask a tuple for findings at a place that are not the same there."""
        self.assertIs(type(told), tuple)
        one, other, rest = told
        self.assertGreaterEqual(max(plain.unlike_places(book, one, other, rest), default=-1), many, (book, told))

    def test_none_at_all(self):
        for book in ((), (SWAP,), (("", "a", "b", ""), ("", "b", "", "c"))):
            self.assertEqual(reach(book), 0)
            for many in range(21):
                self.assertIsNone(far(book, many))
            self.assertIsNone(apart(book))

    def test_some_number(self):
        self.assertEqual(reach((("a", "b", "", "c"),)), 1)
        # What begins ahead takes the letter away from what begins in the rest.
        self.assertEqual(reach((("", "ab", "", ""), ("", "b", "", ""))), 1)
        self.assertEqual(reach((("", "bab", "", ""), ("", "ab", "", ""))), 2)
        self.assertEqual(reach((("", "ab", "", ""), ("", "bc", "", ""))), 1)
        self.assertEqual(reach((("", "ab", "", ""), ("", "bc", "", ""), ("", "cd", "", ""))), 2)
        five = (("", "ab", "", ""), ("", "bc", "", ""), ("", "cd", "", ""), ("", "de", "", ""), ("", "ef", "", ""))
        self.assertEqual(reach(five), 4)
        self.assertEqual(reach((("", "abc", "", ""), ("", "cde", "", ""))), 2)

    def test_findings_that_differ_only_later(self):
        # At place 0 nothing begins, so that far has to go on from there.
        book = (("", "xab", "", ""), ("", "b", "", ""))
        self.assertEqual(reach(book), 2)
        for many in range(2):
            self.unlike(book, far(book, many), many)
        self.assertIsNone(far(book, 2))

    def test_no_number(self):
        for book in ((("", "aaa", "", ""),), (("", "ab", "", ""), ("", "ba", "", "")), (("", "aba", "", ""),)):
            self.assertIsNone(reach(book))

    def test_what_is_looked_at_behind_may_reach_farther_than_what_is_taken(self):
        book = (("", "a", "b", "a"),)
        self.assertEqual(reach(book), 0)
        self.assertEqual(reach((("a", "a", "b", ""),)), 1)
        self.assertEqual(reach((("", "aa", "b", "b"),)), 0)


class Far(unittest.TestCase):
    def test_below_reach_at_it_and_behind_it(self):
        for book in BOOKS_HERE:
            if is_small(book):
                number = reach(book)
                for many in range(21):
                    told = far(book, many)
                    self.assertEqual(told is None, number is not None and many >= number, (book, many))
                    if told is not None:
                        self.unlike(book, told, many)

    unlike = Reach.unlike

    def test_some(self):
        self.unlike(AHEAD, far(AHEAD, 0), 0)
        self.assertIsNone(far(AHEAD, 1))
        for many in range(21):
            self.unlike(PAIR, far(PAIR, many), many)


class Apart(unittest.TestCase):
    def test_several_turns(self):
        told = {True: 0, False: 0}
        for book in BOOKS_HERE:
            if is_small(book):
                answer = apart(book)
                self.assertEqual(answer is None, reach(book) is not None, book)
                told[answer is None] += 1
                if answer is not None:
                    self.each_turn(book, answer)
        self.assertGreater(min(told.values()), 15)

    def each_turn(self, book, answer):
        self.assertIs(type(answer), tuple)
        one, other, rest, turn = answer
        self.assertGreater(len(turn), 0)
        for number in range(1, 7):
            places = plain.unlike_places(book, one, other, rest + turn * (number + 1))
            begin = len(rest) + len(turn) * (number - 1)
            self.assertTrue([place for place in places if begin <= place < begin + len(turn)], (book, answer, number))

    def test_some(self):
        for book in (PAIR, (("", "aaa", "", ""),), (("", "ab", "", ""), ("", "ba", "", ""))):
            self.each_turn(book, apart(book))
        # A letter that stands in no turn is needed ahead of them all.
        book = (("c", "a", "", ""), ("a", "b", "", "a"), ("", "aba", "", ""))
        self.each_turn(book, apart(book))
        self.assertIsNone(apart(AHEAD))


class Shared(unittest.TestCase):
    def test_no_book(self):
        for wrong in wrong_books():
            for function in (reach, apart):
                with self.assertRaises(InvalidBook):
                    function(wrong)
            for many in (0, 21, None, True):
                with self.assertRaises(InvalidBook):
                    far(wrong, many)

    def test_no_number(self):
        for wrong in wrong_numbers(0, 20):
            for book in BOOKS + [wide_book(26, 5)]:
                with self.assertRaises(InvalidNumber):
                    far(book, wrong)

    def test_just_at_the_bounds_and_just_beyond(self):
        for looked_at, signs in BOUNDS:
            for function in (reach, apart, lambda value: far(value, 0), lambda value: far(value, 20)):
                book = wide_book(signs, looked_at)
                self.assertTrue(is_small(book))
                function(book)
                function(book[::-1])
                if (signs + 1) ** looked_at > 600:
                    with self.assertRaises(TooMany):
                        function(wide_book(signs + 1, looked_at))

    def test_books_at_the_bounds_that_overlap_much(self):
        for seed in range(6):
            for alphabet, longest in (("ab", 3), ("abc", 3), ("abcdefg", 2)):
                for book in plain.small_books(seed, 4, alphabet, 5, longest):
                    if is_small(book):
                        answer = apart(book)
                        self.assertEqual(answer is None, reach(book) is not None)
                        if answer is not None:
                            Apart.each_turn(self, book, answer)
                            Reach.unlike(self, book, far(book, 20), 20)

    def test_by_name_and_equal_answers(self):
        for book in BOOKS_HERE[-10:]:
            before = copy.deepcopy(book)
            self.assertEqual(reach(book=book), reach(book))
            self.assertEqual(far(book=book, many=1), far(book, 1))
            self.assertEqual(apart(book=book), apart(book))
            self.assertEqual(book, before)
