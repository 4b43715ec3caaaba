import copy
import unittest
from string import ascii_lowercase

import plain
from restingfixes.clean import count_clean
from restingfixes.counting import count_resting
from restingfixes.errors import InvalidBook, InvalidLetters, InvalidNumber, TooMany
from restingfixes.resting import restless
from samples import BOOKS, SWAP, wide_book, wrong_books, wrong_letters, wrong_numbers

DROP = ("", "b", "", "")
BOOKS_HERE = plain.small_books(61, 25) + plain.small_books(62, 8, "a", 4) + plain.small_books(63, 8, "abc") + [
    (),
    (SWAP,),
    (DROP,),
    (("", "aa", "a", ""),),
    (("", "b", "", ""), ("", "aa", "c", "")),
    (("a", "b", "", ""), ("", "b", "ab", "a")),
    (("", "b", "a", "b"), ("", "a", "c", "")),
    (("", "y", "z", ""), ("", "z", "zz", "y")),
]
LETTERS = ["a", "b", "c", "ab", "az", "xz", "abc", "bcx"]

# For each number of rounds, letters looked at and the most symbols with which no TooMany comes.
BOUNDS = [
    [(1, 21), (2, 26), (3, 24), (4, 8), (5, 4)],
    [(1, 21), (2, 24), (3, 4), (4, 2), (5, 2)],
    [(1, 21), (2, 8), (3, 2), (4, 2), (5, 1)],
    [(1, 21), (2, 4), (3, 2), (4, 1), (5, 1)],
]


def is_small(book, many):
    return len(plain.symbols(book)) ** ((plain.looked_at(book) - 1) * (many + 1)) <= 600


class Short(unittest.TestCase):
    def test_all_short_texts(self):
        for book in BOOKS_HERE:
            for letters in LETTERS:
                self.look_at(book, letters, 6 if len(letters) < 3 else 4)

    def look_at(self, book, letters, most):
        expected = [[0] * (most + 1) for _ in range(4)]
        for text in plain.texts(letters, most):
            length = len(text)
            for many in range(4):
                expected[many][length] += not plain.findings(book, text)
                text = plain.one_round(book, text)
        for many in range(4):
            if is_small(book, many):
                told = [count_resting(book, letters, length, many) for length in range(most + 1)]
                self.assertEqual(told, expected[many], (book, letters, many))

    def test_no_rounds(self):
        for book in BOOKS_HERE + BOOKS:
            for letters in LETTERS + [ascii_lowercase]:
                if is_small(book, 0):
                    for length in (0, 1, 7, 60, 200):
                        clean = count_clean(book, letters, length)
                        self.assertEqual(count_resting(book, letters, length, 0), clean)

    def test_some_numbers(self):
        # "aab" and "abb" need two rounds, "aba" and "bab" one.
        self.assertEqual([count_resting((SWAP,), "ab", 3, many) for many in range(4)], [4, 6, 8, 8])
        self.assertEqual([count_resting((SWAP,), "ab", 2, many) for many in range(2)], [3, 4])
        self.assertEqual([count_resting((("", "aa", "a", ""),), "a", 4, many) for many in range(3)], [0, 0, 1])
        self.assertEqual(count_resting((DROP,), "abc", 5, 0), 32)
        self.assertEqual(count_resting((DROP,), "abc", 5, 1), 243)


class Great(unittest.TestCase):
    def test_all_texts_are_at_rest(self):
        for book in BOOKS_HERE:
            for many in range(4):
                if is_small(book, many) and restless(book, many) is None:
                    self.assertEqual(count_resting(book, ascii_lowercase, 200, many), 26**200)
                    self.assertEqual(count_resting(book, "bq", 199, many), 2**199)

    def test_great_numbers_by_hand(self):
        for many in range(4):
            self.assertEqual(count_resting((), ascii_lowercase, 200, many), 26**200)
            self.assertEqual(count_resting((("", "a", "a", ""),), ascii_lowercase, 200, many), 25**200)
            self.assertEqual(count_resting((("", "a", "a", ""),), "a", 200, many), 0)
            self.assertEqual(count_resting((SWAP,), "a", 200, many), 1)
            self.assertEqual(count_resting((SWAP,), "ab", 0, many), 1)
        # Where a row of letters is halved by each round, three rounds are enough for 8 of them.
        self.assertEqual([count_resting((("", "aa", "a", ""),), "a", length, 3) for length in (8, 9, 200)], [1, 0, 0])
        # At rest behind a round is what is at rest, 201 texts, and what has one "ab" and becomes such.
        clean = {"b" * number + "a" * (200 - number) for number in range(201)}
        before = {text.replace("ba", "ab") for text in clean}
        self.assertEqual(count_resting((SWAP,), "ab", 200, 1), len(clean | before))

    def test_letters_that_no_fix_names(self):
        book = (("", "q", "qq", ""), ("", "r", "", ""))
        for many in range(4):
            self.assertEqual(count_resting(book, "abcdefg", 150, many), 7**150)
            self.assertEqual(count_resting(book, "abcdefgr", 150, many), 7**150 if many == 0 else 8**150)
            self.assertEqual(count_resting(book, "abcdefgqr", 150, many), 7**150 if many == 0 else 8**150)

    def test_a_book_that_names_all_letters(self):
        full = (("", "ab", "cde", ""), ("", "fg", "hij", ""), ("", "kl", "mno", ""), ("", "pq", "rst", ""))
        full += (("u", "v", "wxy", ""),)
        self.assertEqual(plain.symbols(full), ascii_lowercase)
        self.assertEqual(count_resting(full, ascii_lowercase, 2, 0), 26**2 - 5)
        self.assertEqual(count_resting(full, "abz", 3, 0), 27 - 6)


class Errors(unittest.TestCase):
    def test_no_book(self):
        for wrong in wrong_books():
            for letters, length, many in (("ab", 2, 0), (None, 2, 0), ("ba", -1, 4), ("ab", 2, None)):
                with self.assertRaises(InvalidBook):
                    count_resting(wrong, letters, length, many)

    def test_no_letters(self):
        for wrong in wrong_letters():
            for book, length, many in (((SWAP,), 2, 0), ((SWAP,), 201, 4), (wide_book(26, 5), None, None)):
                with self.assertRaises(InvalidLetters):
                    count_resting(book, wrong, length, many)

    def test_no_length(self):
        for wrong in wrong_numbers(0, 200):
            for book, many in (((SWAP,), 0), ((SWAP,), None), (wide_book(26, 5), 3), (wide_book(26, 5), -1)):
                with self.assertRaises(InvalidNumber):
                    count_resting(book, "ab", wrong, many)

    def test_no_number_of_rounds(self):
        for wrong in wrong_numbers(0, 3):
            for book in ((SWAP,), (), wide_book(26, 5)):
                for length in (0, 5, 200):
                    with self.assertRaises(InvalidNumber):
                        count_resting(book, "ab", length, wrong)

    def test_just_at_the_bounds_and_just_beyond(self):
        for many in range(4):
            for looked_at, signs in BOUNDS[many]:
                self.at_and_beyond(many, looked_at, signs)

    def at_and_beyond(self, many, looked_at, signs):
        exponent = (looked_at - 1) * (many + 1)
        if signs > 1:
            book = wide_book(signs, looked_at)
            self.assertEqual((len(plain.symbols(book)), plain.looked_at(book)), (signs, looked_at))
            self.assertLessEqual(signs**exponent, 600)
            told = count_resting(book, ascii_lowercase, 200, many)
            self.assertTrue(0 < told <= 26**200)
        if (signs + 1) ** exponent > 600:
            # The bound is one of the book, whatever letters and length are.
            for letters, length in ((ascii_lowercase, 200), ("z", 0), ("a", 1)):
                with self.assertRaises(TooMany):
                    count_resting(wide_book(signs + 1, looked_at), letters, length, many)
        else:
            self.assertGreaterEqual(signs, 21)

    def test_by_name_and_equal_answers(self):
        for book in BOOKS_HERE[::7]:
            before = copy.deepcopy(book)
            for _ in range(2):
                told = count_resting(book=book, letters="abx", length=9, many=0)
                self.assertEqual(told, count_clean(book, "abx", 9))
            self.assertEqual(book, before)
