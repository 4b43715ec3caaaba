import copy
import itertools
import re
import unittest

from restingfixes.books import check_book
from restingfixes.errors import InvalidBook, InvalidText
from restingfixes.texts import book_text, read_book
from samples import BOOKS, FULL, SHORT, SWAP, THINGS, wrong_books

# The form of document point [5], told a second time, so that the tests do not lean on the program.
GAP = " *(?:[a-z]+ *)?"
FIX = f"{GAP}/{GAP}>{GAP}/{GAP}"
FORM = re.compile(f" *|{FIX}(?:,{FIX})*")
ENDINGS = ("", "/", ">/", "/>/")
SIGNS = "ab /,>A1\t\n-"


def begins(text):
    """Whether a text is the beginning of one that has the form."""
    return any(FORM.fullmatch(text + ending) for ending in ENDINGS)


def first_wrong(text):
    """The `at` that the document asks for, None if the text has the form."""
    if FORM.fullmatch(text):
        return None
    for at in range(len(text)):
        if not begins(text[:at + 1]):
            return at
    return len(text)


def told(text):
    """What a text that has the form tells."""
    if text.strip(" ") == "":
        return ()
    parts = [re.split("[/>]", fix) for fix in text.split(",")]
    return tuple([tuple([word.strip(" ") for word in words]) for words in parts])


def is_book(fixes):
    shapes = [tuple([len(word) for word in fix]) for fix in fixes]
    right = [a < 2 and 0 < o < 4 and n < 4 and b < 2 for a, o, n, b in shapes]
    return len(fixes) < 6 and all(right)


def outcome(text):
    try:
        return ("book", read_book(text))
    except InvalidText as error:
        return ("text", error.at)
    except InvalidBook:
        return ("no book",)


def expected(text):
    at = first_wrong(text)
    if at is not None:
        return ("text", at)
    return ("book", told(text)) if is_book(told(text)) else ("no book",)


class BookText(unittest.TestCase):
    def test_the_form(self):
        self.assertEqual(book_text(()), "")
        self.assertEqual(book_text((("a", "bc", "d", ""),)), "a/bc>d/")
        self.assertEqual(book_text((SHORT,)), "/a>/")
        self.assertEqual(book_text((FULL,)), "x/abc>zyx/q")
        self.assertEqual(book_text((SWAP, ("", "b", "", "c"))), "/ab>ba/, /b>/c")
        self.assertEqual(book_text((SHORT,) * 5), "/a>/, /a>/, /a>/, /a>/, /a>/")

    def test_what_is_no_book(self):
        for wrong in wrong_books():
            before = copy.deepcopy(wrong)
            with self.assertRaises(InvalidBook):
                book_text(wrong)
            self.assertEqual(wrong, before)

    def test_by_name(self):
        for book in BOOKS:
            self.assertEqual(book_text(book=book), book_text(book))


class ReadBook(unittest.TestCase):
    def test_examples(self):
        self.assertEqual(read_book("/ab>b/"), (("", "ab", "b", ""),))
        self.assertEqual(read_book("a/b>c/d"), (("a", "b", "c", "d"),))
        self.assertEqual(read_book("a/bc>d/,/b>/c"), (("a", "bc", "d", ""), ("", "b", "", "c")))

    def test_the_book_comes_again(self):
        for book in BOOKS:
            self.assertEqual(read_book(book_text(book)), book)
            self.assertIsNone(check_book(read_book(book_text(book))))

    def test_the_text_comes_again(self):
        for text in ("", "/a>/", "a/bc>d/", "/ab>ba/, /b>/c, x/abc>zyx/q"):
            self.assertEqual(book_text(read_book(text)), text)

    def test_the_values_are_plain_tuples(self):
        book = read_book("/a>/, x/abc>zyx/q")
        self.assertIs(type(book), tuple)
        self.assertEqual([type(fix) for fix in book], [tuple, tuple])
        self.assertEqual([type(word) for fix in book for word in fix], [str] * 8)
        self.assertIs(type(read_book(" ")), tuple)

    def test_blanks_alone(self):
        for many in (0, 1, 2, 7, 2000):
            self.assertEqual(read_book(" " * many), ())

    def test_a_comma_alone_is_enough(self):
        for book in BOOKS:
            self.assertEqual(read_book(book_text(book).replace(" ", "")), book)

    def test_blanks_wherever_they_may_stand(self):
        for book in BOOKS:
            parts = re.findall("[a-z]+|[/>,]", book_text(book))
            for many in (1, 3):
                self.assertEqual(read_book((" " * many).join([""] + parts + [""])), book)
            for at in range(len(parts) + 1):
                text = "".join(parts[:at]) + "  " + "".join(parts[at:])
                self.assertEqual(read_book(text), book)

    def test_blanks_in_the_place_of_empty_words(self):
        self.assertEqual(read_book("  /  a  >  /  "), (SHORT,))
        self.assertEqual(read_book(" / a > / , / a > / "), (SHORT, SHORT))

    def test_many_fixes(self):
        for many in range(1, 6):
            self.assertEqual(read_book(",".join(["/a>/"] * many)), (SHORT,) * many)

    def test_by_name(self):
        self.assertEqual(read_book(text="/a>/"), (SHORT,))
        with self.assertRaises(InvalidText):
            read_book(text="a")


class NoBook(unittest.TestCase):
    def test_words_of_other_lengths(self):
        for text in ("/>/", "a/>b/c", "ab/a>b/", "/a>b/cd", "/abcd>b/", "/a>bcde/", "/ >/", "/a>/,/>/"):
            with self.assertRaises(InvalidBook):
                read_book(text)

    def test_long_words(self):
        word = "a" * 1996
        for text in (f"{word}/a>/", f"/{word}>/", f"/a>{word}/", f"/a>/{word}", f"  /{word}>/ "):
            with self.assertRaises(InvalidBook):
                read_book(text)

    def test_more_than_five_fixes(self):
        for many in (6, 7, 100, 399):
            with self.assertRaises(InvalidBook):
                read_book(",".join(["/a>/"] * many))

    def test_the_form_comes_first(self):
        self.assertEqual(outcome("abc/abcd>/, /a>b/c-"), ("text", 18))
        self.assertEqual(outcome(",".join(["/a>/"] * 6) + ","), ("text", 30))
        self.assertEqual(outcome("/>/ /"), ("text", 4))


class NoText(unittest.TestCase):
    def assert_at(self, text, at):
        with self.assertRaises(InvalidText) as caught:
            read_book(text)
        self.assertEqual(caught.exception.at, at, text)
        self.assertIs(type(caught.exception.at), int)

    def test_no_string(self):
        for thing in THINGS + BOOKS:
            if not isinstance(thing, str):
                before = copy.deepcopy(thing)
                self.assert_at(thing, 0)
                self.assertEqual(thing, before)

    def test_a_text_that_ends_too_early(self):
        for text in ("a", "a ", " a  ", "/", "/a", "/a ", "/a>", "/a>b", "a/b>c ", "/a>/,", "/a>/ , ", "/a>/,b"):
            self.assert_at(text, len(text))
        self.assert_at("a" * 2000, 2000)

    def test_a_sign_out_of_its_place(self):
        for text, at in ((",", 0), ("  ,", 2), (">", 0), ("//", 1), ("/a/", 2), ("/a>>", 3), ("/a>b,", 4)):
            self.assert_at(text, at)
        for text, at in (("/a>b//", 5), ("/a>b/>", 5), ("/a>b/,,", 6), ("/a>b/ , ,", 8), ("/a,/b>c/", 2)):
            self.assert_at(text, at)

    def test_a_blank_within_a_word(self):
        for text, at in (("a b/c>d/", 2), ("/a b>c/", 3), ("/a>b  c/", 6), ("/a>b/c d", 7), ("/a>b/ /c>d/", 6)):
            self.assert_at(text, at)

    def test_other_blanks(self):
        for other in "\t\n":
            self.assert_at(other, 0)
            self.assert_at(" " + other, 1)
            for at in range(8):
                self.assert_at(" / a > b / "[:at] + other + " / a > b / "[at:], at)
            self.assert_at("/a>b/" + other, 5)
            self.assert_at("/a>b/," + other + "/a>b/", 6)

    def test_other_signs(self):
        for text, at in (("A/b>c/", 0), ("/aB>c/", 2), ("/a>C/", 3), ("/a>b/D", 5), ("/a1>b/", 2), ("/a-b/", 2)):
            self.assert_at(text, at)

    def test_cut_off_at_each_place(self):
        for book in BOOKS:
            for blanks in (" ", "", "  "):
                text = book_text(book).replace(" ", blanks)
                for at in range(len(text) + 1):
                    self.assertEqual(outcome(text[:at]), expected(text[:at]), text[:at])

    def test_a_sign_put_in_left_out_or_exchanged(self):
        for text in ("a/bc>d/e, /ab>/", " x / abc > zyx / q ", "/a>/,/b>a/", "ab/cdef>ghij/kl", "  "):
            for at in range(len(text) + 1):
                wrong = [text[:at] + text[at + 1:]]
                wrong += [text[:at] + sign + text[at:] for sign in SIGNS]
                wrong += [text[:at] + sign + text[at + 1:] for sign in SIGNS]
                for other in wrong:
                    self.assertEqual(outcome(other), expected(other), other)

    def test_all_short_texts(self):
        for length in range(7):
            for signs in itertools.product("a />,", repeat=length):
                text = "".join(signs)
                self.assertEqual(outcome(text), expected(text), text)

    def test_long_texts(self):
        text = ("/a>b/, " * 400)[:2000]
        self.assert_at(text[:1994] + "#" + text[1995:], 1994)
        self.assert_at("/a>b/" + " " * 1992 + "x y", 1999)
