import copy
import itertools
import unittest
from string import ascii_lowercase

import plain
from restingfixes.clean import clean_at, count_clean, longest_clean, number_of
from restingfixes.errors import InvalidBook, InvalidLetters, InvalidNumber, InvalidWord
from samples import BOOKS, SWAP, wrong_books, wrong_letters, wrong_numbers, wrong_texts

PAIR = (("", "aa", "b", ""),)
BOOKS_HERE = plain.small_books(9, 40) + [
    (),
    PAIR,
    (SWAP,),
    (("a", "b", "", ""), ("", "b", "", "a")),
    (("a", "aaa", "", "a"), ("b", "aba", "", "b")),
    (("", "ab", "", ""), ("", "abc", "", ""), ("", "b", "", "c")),
    (("", "z", "a", ""),),
]
LETTERS = ["a", "b", "ab", "ac", "abc", "xz"]


class Examples(unittest.TestCase):
    def test_pairs(self):
        self.assertEqual(count_clean(PAIR, "ab", 3), 5)
        self.assertEqual(clean_at(PAIR, "ab", 3, 2), "bab")
        self.assertEqual(number_of(PAIR, "ab", "bab"), 2)
        self.assertEqual(longest_clean(PAIR, "a"), 1)
        self.assertIsNone(longest_clean(PAIR, "ab"))


class Short(unittest.TestCase):
    def test_all_short_texts(self):
        for book in BOOKS_HERE:
            for letters in LETTERS:
                for length in range(7 if len(letters) < 3 else 5):
                    self.look_at(book, letters, length)

    def look_at(self, book, letters, length):
        texts = list(plain.texts(letters, length, length))
        clean = [text for text in texts if not plain.findings(book, text)]
        self.assertEqual(clean, sorted(clean))
        self.assertEqual(count_clean(book, letters, length), len(clean), (book, letters, length))
        told = [clean_at(book, letters, length, number) for number in range(len(clean))]
        self.assertEqual(told, clean)
        numbers = {text: number for number, text in enumerate(clean)}
        for text in texts:
            self.assertEqual(number_of(book, letters, text), numbers.get(text), (book, letters, text))
        for number in (-1, len(clean), len(clean) + 1, 10**99):
            with self.assertRaises(InvalidNumber):
                clean_at(book, letters, length, number)

    def test_longest_clean(self):
        for book in BOOKS_HERE:
            for letters in LETTERS:
                told = longest_clean(book, letters)
                for length in range(7 if len(letters) < 3 else 6):
                    clean = [text for text in plain.texts(letters, length, length) if not plain.findings(book, text)]
                    self.assertEqual(bool(clean), told is None or length <= told, (book, letters, length))


class Longest(unittest.TestCase):
    def test_the_empty_text_alone(self):
        self.assertEqual(longest_clean((("", "a", "a", ""),), "a"), 0)
        self.assertEqual(longest_clean((("", "a", "b", ""), ("", "b", "", "")), "ab"), 0)
        self.assertEqual(longest_clean((("", "b", "c", ""),), "b"), 0)

    def test_some_length(self):
        self.assertEqual(longest_clean((("a", "a", "", ""),), "a"), 1)
        self.assertEqual(longest_clean((("", "aaa", "", ""),), "a"), 2)
        self.assertEqual(longest_clean((("a", "aaa", "", "a"),), "a"), 4)
        book = (("", "aa", "", ""), ("", "bb", "", ""), ("", "aba", "", ""), ("", "bab", "", ""))
        self.assertEqual(longest_clean(book, "ab"), 2)
        book = (("", "aaa", "", ""), ("", "b", "", "b"), ("", "ab", "", "a"))
        self.assertEqual(longest_clean(book, "ab"), 4)

    def test_none_is_longest(self):
        self.assertIsNone(longest_clean((), "a"))
        self.assertIsNone(longest_clean((), ascii_lowercase))
        self.assertIsNone(longest_clean((("", "a", "", ""),), "ab"))
        self.assertIsNone(longest_clean((("", "a", "", ""),), "b"))
        self.assertIsNone(longest_clean((("", "ab", "", ""),), "ab"))
        self.assertIsNone(longest_clean((SWAP,), ascii_lowercase))

    def test_letters_of_the_book_that_are_not_asked_for(self):
        book = (("", "ab", "", ""), ("", "aa", "", ""), ("", "c", "a", ""))
        self.assertEqual(longest_clean(book, "a"), 1)
        self.assertEqual(longest_clean(book, "c"), 0)
        self.assertIsNone(longest_clean(book, "b"))
        self.assertEqual(count_clean(book, "b", 200), 1)


class Great(unittest.TestCase):
    def test_counts(self):
        self.assertEqual(count_clean((), ascii_lowercase, 200), 26**200)
        self.assertEqual(count_clean((("", "a", "b", ""),), ascii_lowercase, 200), 25**200)
        self.assertEqual(count_clean((("", "q", "", ""),), "q", 200), 0)
        self.assertEqual(count_clean((("", "q", "", ""),), "q", 0), 1)
        fibonacci = [1, 2]
        while len(fibonacci) <= 200:
            fibonacci.append(fibonacci[-1] + fibonacci[-2])
        for length in range(201):
            self.assertEqual(count_clean(PAIR, "ab", length), fibonacci[length])

    def test_numbers_and_texts_are_one_anothers_contrary(self):
        words = [ascii_lowercase[at:at + 3] for at in (0, 3, 6, 9, 12)]
        full = tuple([(word[0], word[::-1], "", word[0]) for word in words])
        for book in ((), PAIR, (SWAP,), full, BOOKS[10]):
            many = count_clean(book, ascii_lowercase, 200)
            for number in (0, 1, many // 3, many // 2, many * 7 // 9, many - 2, many - 1):
                text = clean_at(book, ascii_lowercase, 200, number)
                self.assertEqual(len(text), 200)
                self.assertEqual(plain.findings(book, text), [])
                self.assertEqual(number_of(book, ascii_lowercase, text), number)
            for number in (-1, many, many + 1):
                with self.assertRaises(InvalidNumber):
                    clean_at(book, ascii_lowercase, 200, number)

    def test_the_order_is_kept(self):
        texts = [clean_at(PAIR, "abc", 200, number) for number in range(0, 10**40, 10**38)]
        self.assertEqual(texts, sorted(texts))
        self.assertEqual(clean_at((), ascii_lowercase, 3, 0), "aaa")
        self.assertEqual(clean_at((), ascii_lowercase, 3, 26**3 - 1), "zzz")
        self.assertEqual(clean_at((), "cmx", 4, 1), "cccm")

    def test_the_empty_text(self):
        for book in BOOKS:
            self.assertEqual(count_clean(book, "ab", 0), 1)
            self.assertEqual(clean_at(book, "ab", 0, 0), "")
            self.assertEqual(number_of(book, "ab", ""), 0)

    def test_not_at_rest(self):
        self.assertIsNone(number_of(PAIR, "ab", "baab"))
        self.assertIsNone(number_of(PAIR, "ab", "b" * 198 + "aa"))
        self.assertEqual(number_of(PAIR, "ab", "ab" * 100), 0)


class Shared(unittest.TestCase):
    def test_no_book(self):
        for wrong in wrong_books():
            for letters, length, number in (("ab", 2, 0), (None, 2, 0), ("ba", -1, None)):
                for function, more in (
                    (count_clean, (length,)),
                    (clean_at, (length, number)),
                    (number_of, ("x" if number is None else "ab",)),
                    (longest_clean, ()),
                ):
                    with self.assertRaises(InvalidBook):
                        function(wrong, letters, *more)

    def test_no_letters(self):
        for wrong in wrong_letters():
            for length, number, text in ((2, 0, "ab"), (-1, 0, None), (None, None, "A"), (201, -1, "")):
                for function, more in (
                    (count_clean, (length,)),
                    (clean_at, (length, number)),
                    (number_of, (text,)),
                    (longest_clean, ()),
                ):
                    with self.assertRaises(InvalidLetters):
                        function(PAIR, wrong, *more)

    def test_all_letters_that_are_right(self):
        for size in (1, 2, 25, 26):
            for letters in itertools.islice(itertools.combinations(ascii_lowercase, size), 60):
                self.assertEqual(count_clean((), "".join(letters), 1), size)

    def test_no_length(self):
        for wrong in wrong_numbers(0, 200):
            with self.assertRaises(InvalidNumber):
                count_clean(PAIR, "ab", wrong)
            for number in (0, None):
                with self.assertRaises(InvalidNumber):
                    clean_at(PAIR, "ab", wrong, number)

    def test_no_number(self):
        for wrong in wrong_numbers(0, 4):
            with self.assertRaises(InvalidNumber):
                clean_at(PAIR, "ab", 3, wrong)
        for number in (0, 1, -1):
            with self.assertRaises(InvalidNumber):
                clean_at((("", "a", "", ""),), "a", 5, number)

    def test_no_text(self):
        for wrong in wrong_texts():
            with self.assertRaises(InvalidWord):
                number_of(PAIR, "ab", wrong)

    def test_a_text_of_other_letters(self):
        for text in ("c", "abc", "cab", "aac", "z" * 200):
            with self.assertRaises(InvalidLetters):
                number_of(PAIR, "ab", text)
        with self.assertRaises(InvalidWord):
            number_of(PAIR, "ab", "c" * 201)

    def test_by_name_and_equal_answers(self):
        for book in BOOKS:
            before = copy.deepcopy(book)
            for _ in range(2):
                self.assertEqual(count_clean(book=book, letters="bcd", length=3), count_clean(book, "bcd", 3))
                self.assertEqual(clean_at(book=book, letters="mst", length=2, number=1), clean_at(book, "mst", 2, 1))
                self.assertEqual(number_of(book=book, letters="bcd", text="db"), number_of(book, "bcd", "db"))
                self.assertEqual(longest_clean(book=book, letters="ab"), longest_clean(book, "ab"))
            self.assertEqual(book, before)
