import copy
import itertools
import random
import unittest

from restingfixes.errors import InvalidBook, InvalidLine, InvalidWord
from restingfixes.papers import paper_text, read_paper
from samples import BOOKS, FULL, SHORT, SWAP, THINGS, WRONG_FIXES, wrong_books, wrong_texts

TEXTS = ["", "a", "abc", "fix", "text", "z" * 200]
FIX = "fix a bc d e"
# Lines that are wrong wherever they stand, and why.
WRONG_LINES = [
    ("fix", "line"),
    ("text", "line"),
    ("fix a b c", "line"),
    ("fix a b c d e", "line"),
    ("fix  a  b  c", "line"),
    ("text a b", "line"),
    ("text - -", "line"),
    ("Text a", "line"),
    ("FIX a b c d", "line"),
    ("texta", "line"),
    ("-", "line"),
    ("fix- a b c d", "line"),
    ("book a", "line"),
    ("fixed a b c d", "line"),
    ("\tfix a b c d", "line"),
    ("\ttext a", "line"),
    ("text\ta", "line"),
    ("text a \t", "line"),
    ("fix a b c d \t", "line"),
    ("\t", "line"),
    (" \t ", "line"),
    ("fix aa b c d", "fix"),
    ("fix a - c d", "fix"),
    ("fix a bcde f g", "fix"),
    ("fix a b cdef g", "fix"),
    ("fix a b c dd", "fix"),
    ("fix A b c d", "fix"),
    ("fix a b c \t", "fix"),
    ("fix a b\tc d e", "fix"),
    ("fix -- b c d", "fix"),
    ("fix a b c --", "fix"),
    ("fix a b -c d", "fix"),
    ("fix 1 b c d", "fix"),
    ("fix - - - -", "fix"),
    ("fix a/b > c d", "fix"),
    ("text A", "text"),
    ("text --", "text"),
    ("text a-", "text"),
    ("text \t", "text"),
    ("text a\tb", "text"),
    ("text a1", "text"),
    ("text " + "a" * 201, "text"),
]


class Written(unittest.TestCase):
    def test_example(self):
        self.assertEqual(paper_text((("", "ab", "", "c"),), "abc"), "fix - ab - c\ntext abc\n")

    def test_by_hand(self):
        self.assertEqual(paper_text((), ""), "text -\n")
        self.assertEqual(paper_text((), "text"), "text text\n")
        self.assertEqual(paper_text((SWAP, FULL), ""), "fix - ab ba -\nfix x abc zyx q\ntext -\n")
        self.assertEqual(paper_text((SHORT,) * 5, "q" * 200), "fix - a - -\n" * 5 + "text " + "q" * 200 + "\n")

    def test_what_is_written_is_read_back(self):
        for book in BOOKS:
            for text in TEXTS:
                self.assertEqual(read_paper(paper_text(book, text)), (book, text))
                self.assertEqual(read_paper(text=paper_text(book=book, text=text)), (book, text))

    def test_no_book_and_no_text(self):
        for wrong in wrong_books():
            for text in ("abc", None, "A"):
                with self.assertRaises(InvalidBook):
                    paper_text(wrong, text)
        for wrong in wrong_texts():
            for book in ((), (SWAP,)):
                with self.assertRaises(InvalidWord):
                    paper_text(book, wrong)

    def test_arguments_are_as_before(self):
        book = (SWAP, FULL)
        before = copy.deepcopy(book)
        self.assertEqual(paper_text(book, "ab"), paper_text(book, "ab"))
        self.assertEqual(book, before)


class Read(unittest.TestCase):
    def wrong(self, text, line, reason):
        with self.assertRaises(InvalidLine) as caught:
            read_paper(text)
        self.assertEqual((caught.exception.line, caught.exception.reason), (line, reason), text)

    def test_further_blanks_and_lines(self):
        told = ((("a", "bc", "d", "e"), ("", "a", "", "")), "xyz")
        lines = [["fix", "a", "bc", "d", "e"], ["fix", "-", "a", "-", "-"], ["text", "xyz"]]
        draw = random.Random(95)
        for _ in range(300):
            written = []
            for words in lines:
                written += [" " * draw.randint(0, 3) for _ in range(draw.choice([0, 0, 1, 2]))]
                blanks = [" " * draw.randint(1, 3) for _ in words[1:]] + [" " * draw.randint(0, 2)]
                line = " " * draw.randint(0, 2) + "".join([word + blank for word, blank in zip(words, blanks)])
                written.append(line)
            written += [" " * draw.randint(0, 2) for _ in range(draw.randint(0, 3))]
            text = "\n".join(written) + draw.choice(["", "\n"])
            self.assertEqual(read_paper(text), told, text)

    def test_no_last_line_end(self):
        self.assertEqual(read_paper("text -"), ((), ""))
        self.assertEqual(read_paper("text abc"), ((), "abc"))
        self.assertEqual(read_paper(FIX + "\ntext abc"), ((("a", "bc", "d", "e"),), "abc"))

    def test_strokes(self):
        self.assertEqual(read_paper("fix - a - -\ntext -\n"), ((SHORT,), ""))
        self.assertEqual(read_paper("fix b a - c\ntext -\n"), ((("b", "a", "", "c"),), ""))

    def test_words_that_are_also_first_words(self):
        self.assertEqual(read_paper("fix t fix fix x\ntext text"), ((("t", "fix", "fix", "x"),), "text"))
        self.assertEqual(read_paper("text fix"), ((), "fix"))

    def test_each_reason_in_each_line(self):
        for wrong, reason in WRONG_LINES:
            for ahead in range(5):
                for behind in ("", "\n", "\ntext a", "\ntext a\n", "\n" + FIX + "\n", "\nbook\n"):
                    self.wrong((FIX + "\n") * ahead + wrong + behind, ahead, reason)
                    self.wrong("\n  \n" + (FIX + "\n") * ahead + "   " + wrong + behind, ahead + 2, reason)

    def test_the_first_of_two_wrong_lines(self):
        for (one, reason), (other, _) in itertools.product(WRONG_LINES, WRONG_LINES):
            self.wrong(one + "\n" + other, 0, reason)
        self.wrong(FIX + "\n\nfix a - b c\nfix\ntext\n", 2, "fix")

    def test_behind_a_text_line(self):
        for line in ("text a", "text", FIX, "fix", "fix a - b c", "text A", "book", "\t", "-", "text " + "a" * 201):
            self.wrong("text a\n" + line, 1, "line")
            self.wrong(FIX + "\ntext -\n\n  \n" + line + "\n", 4, "line")
        self.assertEqual(read_paper("text a\n\n   \n \n"), ((), "a"))

    def test_five_and_six_fixes(self):
        five = (FIX + "\n") * 5
        self.assertEqual(read_paper(five + "text a"), ((("a", "bc", "d", "e"),) * 5, "a"))
        self.wrong(five + FIX, 5, "many")
        self.wrong(five + FIX + "\ntext a\n", 5, "many")
        self.wrong(five + "\n" + FIX + "\n" + FIX, 6, "many")
        # Of two reasons the first one is told.
        self.wrong(five + "fix a - c d", 5, "fix")
        self.wrong(five + "fix a b c", 5, "line")
        self.wrong(five + "book", 5, "line")
        self.wrong(five + "text A", 5, "text")

    def test_texts_of_200_and_201_letters(self):
        self.assertEqual(read_paper("text " + "ab" * 100), ((), "ab" * 100))
        self.wrong("text " + "ab" * 100 + "c", 0, "text")

    def test_it_ends_without_a_text(self):
        for lines in (0, 1, 2, 4):
            self.wrong("\n" * lines, lines + 1, "end")
            self.wrong(" \n" * lines + "  ", lines + 1, "end")
            self.wrong((FIX + "\n") * lines, lines + 1, "end")
            self.wrong((FIX + "\n") * lines + FIX, lines + 1, "end")
        self.wrong((FIX + "\n") * 5, 6, "end")
        # A wrong line is told first, wherever it stands.
        self.wrong("\n\nbook\n\n", 2, "line")

    def test_no_string(self):
        for thing in THINGS:
            if not isinstance(thing, str):
                self.wrong(thing, 0, "string")

    def test_strings_of_all_kinds(self):
        for thing in THINGS:
            if isinstance(thing, str):
                with self.assertRaises(InvalidLine):
                    read_paper(thing)
        self.wrong("a" * 2000, 0, "line")
        self.wrong("\t\n", 0, "line")
        self.wrong("\n" * 2000, 2001, "end")

    def test_fixes_that_are_wrong_in_one_word(self):
        for fix in [fix for fix in WRONG_FIXES if isinstance(fix, tuple) and len(fix) == 4]:
            if not any([sign in word for word in fix for sign in " \n-"]):
                self.wrong(" ".join(["fix"] + [word or "-" for word in fix]) + "\ntext a", 0, "fix")
