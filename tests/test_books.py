import copy
import unittest
from string import ascii_lowercase

from restingfixes.books import check_book, check_text, letters, symbols
from restingfixes.errors import InvalidBook, InvalidWord
from samples import BOOKS, FULL, NO_WORDS, SHORT, SWAP, THINGS, wrong_books


class CheckBook(unittest.TestCase):
    def test_books(self):
        for book in BOOKS:
            self.assertIsNone(check_book(book))

    def test_each_number_of_fixes(self):
        for many in range(6):
            self.assertIsNone(check_book((SWAP,) * many))
        for many in (6, 7, 10, 2000):
            with self.assertRaises(InvalidBook):
                check_book((SWAP,) * many)

    def test_each_length_of_each_word(self):
        for place, right in enumerate([(0, 1), (1, 2, 3), (0, 1, 2, 3), (0, 1)]):
            for length in (0, 1, 2, 3, 4, 5, 200, 2000):
                fix = SWAP[:place] + ("c" * length,) + SWAP[place + 1:]
                if length in right:
                    self.assertIsNone(check_book((fix,)))
                else:
                    with self.assertRaises(InvalidBook):
                        check_book((fix,))

    def test_each_letter_and_no_other_sign(self):
        for number in range(128):
            for place in range(4):
                fix = SWAP[:place] + (chr(number),) + SWAP[place + 1:]
                if chr(number) in ascii_lowercase:
                    self.assertIsNone(check_book((fix,)))
                else:
                    with self.assertRaises(InvalidBook):
                        check_book((fix,))

    def test_what_is_no_book(self):
        for wrong in wrong_books():
            with self.assertRaises(InvalidBook):
                check_book(wrong)

    def test_arguments_are_not_modified(self):
        for value in BOOKS + wrong_books():
            before = copy.deepcopy(value)
            try:
                check_book(value)
            except InvalidBook:
                pass
            self.assertEqual(value, before)

    def test_by_name(self):
        self.assertIsNone(check_book(book=(SWAP,)))
        with self.assertRaises(InvalidBook):
            check_book(book=None)


class Letters(unittest.TestCase):
    def test_ascending_and_each_once(self):
        self.assertEqual(letters(()), "")
        self.assertEqual(letters((SHORT,)), "a")
        self.assertEqual(letters((SWAP,)), "ab")
        self.assertEqual(letters((SWAP, SWAP)), "ab")
        self.assertEqual(letters((FULL,)), "abcqxyz")
        self.assertEqual(letters((("z", "y", "x", "w"), ("d", "c", "b", "a"))), "abcdwxyz")

    def test_each_of_the_four_words_counts(self):
        self.assertEqual(letters((("z", "b", "", ""),)), "bz")
        self.assertEqual(letters((("", "zb", "", ""),)), "bz")
        self.assertEqual(letters((("", "b", "za", ""),)), "abz")
        self.assertEqual(letters((("", "b", "", "a"),)), "ab")

    def test_all_letters(self):
        parts = [ascii_lowercase[at:at + 6] for at in range(0, 26, 6)]
        book = tuple([("", part[:3][::-1], part[3:], "") for part in parts])
        self.assertEqual(letters(book), ascii_lowercase)

    def test_what_is_no_book(self):
        for wrong in wrong_books():
            with self.assertRaises(InvalidBook):
                letters(wrong)

    def test_by_name_and_twice(self):
        for book in BOOKS:
            self.assertEqual(letters(book=book), letters(book))


class Symbols(unittest.TestCase):
    def test_the_letters_and_the_least_other(self):
        self.assertEqual(symbols([]), "a")
        self.assertEqual(symbols([()]), "a")
        self.assertEqual(symbols([(SHORT,)]), "ab")
        self.assertEqual(symbols([(("", "b", "", ""),)]), "ab")
        self.assertEqual(symbols([(("", "ac", "", ""),)]), "abc")
        self.assertEqual(symbols([(SHORT,), (("", "z", "", ""),)]), "abz")

    def test_no_other_letter_if_all_stand(self):
        words = [ascii_lowercase[at:at + 3] for at in range(0, 26, 3)]
        fixes = [("", word, "", "") for word in words]
        self.assertEqual(symbols([tuple(fixes[:5]), tuple(fixes[5:])]), ascii_lowercase)
        self.assertEqual(symbols([tuple(fixes[:5]), tuple(fixes[5:8])]), ascii_lowercase[:25])


class CheckText(unittest.TestCase):
    def test_texts(self):
        for text in ("", "a", "z", ascii_lowercase, "a" * 200):
            self.assertIsNone(check_text(text))

    def test_what_is_no_text(self):
        wrong = [thing for thing in THINGS if thing not in ("", "a", "abcd")] + NO_WORDS
        for value in wrong + ["a" * 201, "A", "aB", "a b", " ", "a1", "a\n", "-"]:
            with self.assertRaises(InvalidWord):
                check_text(value)
