import copy
import unittest

import plain
from restingfixes.coming import comes_round
from restingfixes.coming import rounds_to_itself as told_rounds
from restingfixes.errors import InvalidBook, InvalidNumber, TooMany
from restingfixes.rounds import course
from samples import BOOKS, SWAP, wide_book, wrong_books, wrong_numbers

TURN = (("", "a", "b", ""), ("", "b", "a", ""))
# Three letters a become 81 letters d and then three letters a again.
GROWING = (("", "a", "bbb", ""), ("", "b", "ccc", ""), ("", "c", "ddd", ""), ("", "ddd", "", "d"), ("", "d", "a", ""))
# Four letters a become 108 letters d and then four letters a again.
TOO_LONG = GROWING[:3] + (("", "dd", "", "d"), ("", "d", "aa", ""))
def chain(a, b, c, last, end):
    """A book of what becomes of a and of b, a third fix, what becomes of a last word, and of d."""
    return (("", "a", a, ""), ("", "b", b, ""), c, ("",) + last + ("",), ("", "d", end, ""))


# Books, and a text for each that comes round behind so many rounds and not behind fewer.
ROUND_AND_ROUND = [
    (chain("ccc", "c", ("", "c", "d", ""), ("dd", "d"), "a"), "a", 11),
    (chain("bcb", "d", ("", "c", "ddd", ""), ("dd", "d"), "a"), "a", 12),
    (chain("cc", "cc", ("", "c", "d", "c"), ("ddd", "c"), "ba"), "dce", 13),
    (chain("b", "c", ("", "c", "d", ""), ("ddd", "a"), "aa"), "a", 16),
]
# Books, and a text for each that comes round with one of so many letters between.
LONG_BETWEEN = [
    (GROWING, "aaa", 81),
    (GROWING[:1] + (("b", "b", "cdc", ""), GROWING[2], ("", "d", "", "d"), ("b", "d", "aab", "")), "bdbd", 94),
    (TOO_LONG, "aaaa", 108),
    (GROWING[:3] + (("d", "ddd", "", "d"), ("", "dd", "aa", "d")), "aadd", 109),
    (GROWING[:3] + (("d", "ddd", "", "d"), ("", "dd", "daa", "")), "daad", 111),
]
BOOKS_HERE = plain.small_books(81, 40) + plain.small_books(82, 20, "a", 4) + plain.small_books(83, 20, "abc", 5) + [
    (),
    (SWAP,),
    TURN,
    (("", "a", "a", ""),),
    (("", "ab", "ba", "a"), ("", "ba", "ab", "")),
    (("a", "b", "ab", ""), ("a", "ab", "b", "")),
]


def is_small(book, most):
    return len(plain.symbols(book)) ** most <= 2000


def rounds_to_itself(book, text, most_rounds=12, most_letters=100):
    """The least number of rounds behind which a text comes again, all else as the document tells."""
    if plain.findings(book, text):
        now = text
        for many in range(1, most_rounds + 1):
            now = plain.one_round(book, now)
            if now == text:
                return many
            if len(now) > most_letters:
                return None
    return None


def expected(book, most):
    for text in plain.texts(plain.symbols(book), most):
        many = rounds_to_itself(book, text)
        if many is not None:
            return (text, many)
    return None


class ComesRound(unittest.TestCase):
    def test_example(self):
        self.assertEqual(comes_round(TURN, 3), ("a", 2))

    def test_all_texts(self):
        told = {True: 0, False: 0}
        for book in BOOKS_HERE:
            for most in range(6 if len(plain.symbols(book)) < 3 else 5):
                if is_small(book, most):
                    answer = comes_round(book, most)
                    self.assertEqual(answer, expected(book, most), (book, most))
                    told[answer is None] += 1
        self.assertGreater(min(told.values()), 50)

    def test_a_round_that_changes_nothing(self):
        self.assertEqual(comes_round((("", "a", "a", ""),), 1), ("a", 1))
        self.assertEqual(comes_round((("", "b", "a", ""), ("a", "c", "c", "")), 5), ("ac", 1))
        self.assertEqual(comes_round((("", "aba", "aba", ""),), 6), ("aba", 1))

    def test_the_bound_of_letters(self):
        book = (("", "aaa", "aaa", ""),)
        self.assertEqual([comes_round(book, most) for most in range(4)], [None, None, None, ("aaa", 1)])
        book = (("x", "aaa", "aaa", "x"),)
        self.assertIsNone(comes_round(book, 4))
        self.assertEqual(comes_round(book, 5), ("xaaax", 1))

    def test_most_0_and_8(self):
        for book in BOOKS_HERE + BOOKS + [wide_book(26, 5)]:
            self.assertIsNone(comes_round(book, 0))
        self.assertIsNone(comes_round((("", "a", "", ""),), 8))
        self.assertIsNone(comes_round((), 8))
        # Of eight letters alone nothing is left out.
        self.assertEqual(comes_round((("a", "aaa", "aaa", ""),), 8), ("aaaa", 1))
        for book in plain.small_books(84, 10, "a", 5):
            self.assertEqual(comes_round(book, 8), expected(book, 8), book)

    def test_ascending_order(self):
        # "b" comes round as "c" does; of longer texts "ab" is ahead of "ba".
        self.assertEqual(comes_round((("", "c", "b", ""), ("", "b", "c", "")), 2), ("b", 2))
        self.assertEqual(comes_round((("", "ba", "ab", ""), ("", "ab", "ba", "")), 2), ("ab", 2))
        self.assertEqual(comes_round((("b", "b", "b", ""), ("", "aab", "aab", "")), 3), ("bb", 1))

    def test_a_symbol_that_stands_in_no_fix(self):
        self.assertEqual(comes_round((("", "b", "c", ""), ("", "c", "b", "")), 1), ("b", 2))
        # Behind a round the first letter is one that the book does not name.
        book = (("", "b", "", ""), ("a", "c", "c", ""))
        self.assertEqual(comes_round(book, 2), ("ac", 1))

    def test_the_bound_of_rounds(self):
        # Two rows of letters that come round by 3 and by 2 do so together by 6.
        both = (("", "a", "b", ""), ("", "b", "c", ""), ("", "c", "a", ""), ("x", "y", "z", ""), ("x", "z", "y", ""))
        self.assertEqual(comes_round(both, 1), ("a", 3))
        self.assertEqual(course(both, "axy", 12), ("ring", 0, 6))

    def test_just_twelve_rounds_and_more(self):
        for book, text, many in ROUND_AND_ROUND:
            self.assertIsNone(rounds_to_itself(book, text, many - 1, 1000))
            self.assertEqual(rounds_to_itself(book, text, many, 1000), many)
            self.assertEqual(comes_round(book, 4), (text, many) if many <= 12 else None)

    def test_the_bound_of_letters_between(self):
        for book, text, most in LONG_BETWEEN:
            self.assertIsNone(rounds_to_itself(book, text, 12, most - 1))
            self.assertIsNotNone(rounds_to_itself(book, text, 12, most))
            told = comes_round(book, 4)
            self.assertEqual(told, expected(book, 4), book)
            self.assertEqual(told is None, most > 100, (book, told))

    def test_just_a_hundred_letters_between(self):
        # No short text is known that has just so many, so what looks at each text is asked for longer ones.
        book = (("", "bb", "a", ""), ("", "a", "bb", ""))
        for text, most in (("a" * 49 + "c", 99), ("a" * 50, 100), ("a" * 50 + "c", 101), ("a" * 51, 102)):
            self.assertIsNone(rounds_to_itself(book, text, 12, most - 1))
            self.assertEqual(rounds_to_itself(book, text, 12, most), 2)
            self.assertEqual(told_rounds(book, text), 2 if most <= 100 else None)

    def test_by_name_and_equal_answers(self):
        before = copy.deepcopy(TURN)
        for _ in range(2):
            self.assertEqual(comes_round(book=TURN, most=3), ("a", 2))
        self.assertEqual(TURN, before)


class Errors(unittest.TestCase):
    def test_no_book(self):
        for wrong in wrong_books():
            for most in (3, None, 9, -1, True):
                with self.assertRaises(InvalidBook):
                    comes_round(wrong, most)

    def test_no_number(self):
        for wrong in wrong_numbers(0, 8):
            for book in (TURN, (), wide_book(26, 5)):
                with self.assertRaises(InvalidNumber):
                    comes_round(book, wrong)

    def test_just_at_the_bounds_and_just_beyond(self):
        # The most symbols with which texts of so many letters are not too many.
        for most, signs in ((8, 2), (7, 2), (6, 3), (5, 4), (4, 6), (3, 12)):
            self.assertTrue(signs**most <= 2000 < (signs + 1) ** most)
            self.assertEqual(comes_round(small_turn(signs), most), ("a", 2) if signs > 2 else ("a", 1))
            comes_round(growing_book(signs), most)
            for book in (small_turn(signs + 1), growing_book(signs + 1)):
                with self.assertRaises(TooMany):
                    comes_round(book, most)
        for signs in (13, 25, 26):
            comes_round(wide_book(signs, 5), 2)
            with self.assertRaises(TooMany):
                comes_round(wide_book(signs, 5), 3)


def small_turn(signs):
    """A book with so many symbols of which "a" comes round."""
    others = "abcdefghijklmnopqrstuvwxyz"[2:signs - 1]
    fixes = TURN if signs > 2 else (("", "a", "a", ""),)
    return fixes + tuple([("", others[at:at + 3], others[at + 3:at + 6], "") for at in range(0, len(others), 6)])


def growing_book(signs):
    """A book with so many symbols that makes texts longer and longer."""
    used = "abcdefghijklmnopqrstuvwxyz"[:signs - 1]
    spread = (used * 6)[:15]
    return tuple([("", used[at % len(used)], spread[3 * at:3 * at + 3], "") for at in range(5)])
