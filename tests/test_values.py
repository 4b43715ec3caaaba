import copy
import itertools
import unittest

import plain
from restingfixes.errors import InvalidRow, InvalidWord, TooMany
from restingfixes.values import Row
from samples import BOOKS, FULL, SHORT, SWAP, THINGS, wide_book, wrong_books, wrong_texts

SWAPS = (SWAP,)
DROP = (("", "b", "", ""),)
GROW = (("", "a", "aaa", ""),)
NOTHING = (("", "a", "a", ""),)
TURN = (("", "a", "b", ""), ("", "b", "a", ""))
SMALL = plain.small_books(101, 40) + plain.small_books(102, 15, "a", 4) + [(), SWAPS, DROP, GROW, NOTHING, TURN]

# For the number of books in both rows together, letters looked at and the most symbols without TooMany.
BOUNDS = {
    1: [(1, 21), (2, 26), (3, 24), (4, 17), (5, 8)],
    2: [(1, 21), (2, 26), (3, 8), (4, 4), (5, 2)],
    3: [(1, 21), (2, 17), (3, 4), (4, 2), (5, 2)],
    4: [(1, 21), (2, 8), (3, 2), (4, 2), (5, 1)],
    5: [(1, 21), (2, 5), (3, 2), (4, 1), (5, 1)],
    6: [(1, 21), (2, 4), (3, 2), (4, 1), (5, 1)],
    7: [(1, 21), (2, 3), (3, 1), (4, 1), (5, 1)],
    8: [(1, 21), (2, 2), (3, 1), (4, 1), (5, 1)],
    12: [(1, 21), (2, 2), (3, 1), (4, 1), (5, 1)],
}


def size(ones, others):
    books = ones + others
    return len(plain.symbols(*books)) ** ((plain.looked_at(*books) - 1) * len(books))


def makes(books, text):
    for book in books:
        text = plain.one_round(book, text)
    return text


class Books(unittest.TestCase):
    def test_what_it_tells_of_its_books(self):
        for books in ([], [()], [SWAPS], [SWAPS, DROP, SWAPS], BOOKS[:6], BOOKS[5:]):
            row = Row(books)
            self.assertEqual(row.books, books)
            self.assertIsInstance(row.books, list)
            self.assertEqual(len(row), len(books))
            self.assertEqual(list(row), books)
            self.assertEqual([book for book in row] + [book for book in row], books * 2)
            for book in BOOKS + SMALL:
                self.assertIs(book in row, book in books)

    def test_it_is_iterated_anew_each_time(self):
        row = Row([SWAPS, DROP])
        pairs = [(one, other) for one in row for other in row]
        self.assertEqual(pairs, list(itertools.product([SWAPS, DROP], repeat=2)))
        first, second = row
        self.assertEqual((first, second), (SWAPS, DROP))

    def test_later_changes_change_nothing(self):
        books = [SWAPS, DROP]
        row = Row(books)
        books.append(GROW)
        books[0] = GROW
        self.assertEqual(row.books, [SWAPS, DROP])
        told = row.books
        told.clear()
        self.assertEqual(row.books, [SWAPS, DROP])
        self.assertEqual((len(row), list(row), row("aab")), (2, [SWAPS, DROP], "aa"))
        self.assertIsNot(row.books, row.books)
        again = Row(row.books)
        row.books.append(GROW)
        self.assertEqual((len(again), len(row)), (2, 2))

    def test_books_cannot_be_assigned(self):
        row = Row([SWAPS])
        with self.assertRaises(AttributeError):
            row.books = [DROP]
        self.assertEqual(row.books, [SWAPS])

    def test_in_with_any_value(self):
        row = Row([(), SWAPS, DROP])
        for thing in THINGS + [SWAP, SHORT, [SWAPS], [SWAP], "", Row([]), Row([SWAPS]), row]:
            self.assertIs(thing in row, thing == () and isinstance(thing, tuple))
            self.assertIs(thing in Row([]), False)
        self.assertIs((("", "a" + "b", "ba", ""),) in row, True)
        self.assertIs([SWAP] in row, False)

    def test_no_hash(self):
        with self.assertRaises(TypeError):
            hash(Row([]))

    def test_no_row(self):
        wrong = [thing for thing in THINGS if thing != []] + [Row([]), Row([SWAPS]), SWAPS, (SWAPS,), {SWAPS: SWAPS}]
        wrong += [[SWAPS] * 7, [()] * 7, [SWAP], [[SWAP]], [list(SWAPS)], [Row([])], [SWAPS, Row([])]]
        wrong += [[book] for book in wrong_books()] + [[SWAPS, book, DROP] for book in wrong_books()]
        for value in wrong:
            with self.assertRaises(InvalidRow):
                Row(value)
        self.assertEqual(len(Row(books=[SWAPS] * 6)), 6)


class Call(unittest.TestCase):
    def test_rounds_one_behind_the_other(self):
        rows = [list(books) for size in range(4) for books in itertools.product(SMALL[::9] + [GROW], repeat=size)]
        for books in rows[::5]:
            for text in plain.texts("ab", 4):
                self.assertEqual(Row(books)(text), makes(books, text))

    def test_the_order_matters(self):
        self.assertEqual(Row([GROW, TURN])("ab"), "bbba")
        self.assertEqual(Row([TURN, GROW])(text="ab"), "baaa")
        self.assertEqual(Row([])("xyz"), "xyz")
        self.assertEqual(Row([()])("xyz"), "xyz")

    def test_more_than_200_letters_between(self):
        row = Row([GROW, GROW, GROW, (("", "aaa", "b", ""),), (("", "bbb", "c", ""),), (("", "ccc", "a", ""),)])
        self.assertEqual(row("a" * 200), "a" * 200)
        self.assertEqual(Row([GROW] * 6)("a" * 200), "a" * 145800)

    def test_no_text(self):
        for wrong in wrong_texts():
            for row in (Row([]), Row([SWAPS, DROP])):
                with self.assertRaises(InvalidWord):
                    row(wrong)


class Join(unittest.TestCase):
    def test_books_of_both(self):
        few = [([], []), ([SWAPS], []), ([], [DROP])]
        for ones, others in few + [([SWAPS, DROP], [GROW, SWAPS]), ([TURN] * 3, [DROP] * 3)]:
            one, other = Row(ones), Row(others)
            both = one >> other
            self.assertIsInstance(both, Row)
            self.assertEqual(both.books, ones + others)
            self.assertEqual((one.books, other.books), (ones, others))
            for text in plain.texts("ab", 3):
                self.assertEqual(both(text), makes(others, makes(ones, text)))

    def test_six_books_and_more(self):
        for ones in range(7):
            for others in range(7):
                if ones + others <= 6:
                    self.assertEqual(len(Row([SWAPS] * ones) >> Row([DROP] * others)), ones + others)
                else:
                    with self.assertRaises(InvalidRow):
                        Row([SWAPS] * ones) >> Row([DROP] * others)

    def test_a_new_row(self):
        one, other = Row([SWAPS]), Row([])
        both = one >> other
        self.assertIsNot(both, one)
        one >>= Row([DROP])
        self.assertEqual((one.books, both.books), ([SWAPS, DROP], [SWAPS]))
        self.assertEqual((Row([SWAPS]) >> Row([DROP]) >> Row([GROW])).books, [SWAPS, DROP, GROW])

    def test_no_row_behind_the_sign(self):
        for thing in THINGS + [SWAPS, [SWAPS], [[SWAPS]], "ab"]:
            for row in (Row([]), Row([SWAPS] * 6)):
                with self.assertRaises(InvalidRow):
                    row >> thing


class Equal(unittest.TestCase):
    def test_examples(self):
        one = (("", "ab", "b", ""),)
        self.assertIs(Row([one]) == Row([one, one]), False)
        self.assertEqual(Row([one]).parted(Row([one, one])), "aab")
        self.assertEqual((Row([one]) >> Row([one]))("aab"), "b")

    def test_against_all_short_texts(self):
        told = {True: 0, False: 0}
        lengths = [(0, 0), (0, 1), (1, 0), (1, 1), (2, 0), (1, 2), (2, 2), (3, 1), (0, 4)]
        for at in range(len(SMALL)):
            first, second = lengths[at % len(lengths)]
            ones = [SMALL[(at + k) % len(SMALL)] for k in range(first)]
            others = [SMALL[(at + 2 * k) % len(SMALL)] for k in range(second)]
            for other in (others, ones + [NOTHING], ones[1:], ones[::-1], [()] + ones):
                if size(ones, other) <= 5000:
                    told[self.look_at(ones, other)] += 1
        self.assertGreater(min(told.values()), 30)

    def look_at(self, ones, others):
        one, other = Row(ones), Row(others)
        text = one.parted(other)
        self.assertIs(one == other, text is None)
        self.assertIs(one != other, text is not None)
        signs = plain.symbols(*(ones + others))
        most = 5 if len(signs) < 4 else 4
        if text is not None:
            self.assertNotEqual(makes(ones, text), makes(others, text))
            self.assertEqual(len(other.parted(one)), len(text))
            self.assertEqual([letter for letter in text if letter not in signs], [])
            most = min(most, len(text) - 1)
        for other_text in plain.texts(signs, most):
            self.assertEqual(makes(ones, other_text), makes(others, other_text), (ones, others, text))
        return text is None

    def test_equal_rows_with_unlike_books(self):
        self.assertTrue(Row([TURN, TURN]) == Row([]))
        self.assertTrue(Row([NOTHING]) == Row([()]))
        self.assertFalse(Row([NOTHING]) != Row([]))
        self.assertTrue(Row([DROP]) == Row([DROP, DROP, DROP]))
        long, short = (("", "a", "b", ""), ("", "b", "c", "")), (("", "a", "c", ""), ("", "b", "c", ""))
        self.assertTrue(Row([long, long]) == Row([short]))
        self.assertTrue(Row([long]) != Row([short]))
        self.assertEqual(Row([long]).parted(other=Row([short])), "a")
        self.assertIsNone(Row([long, long]).parted(Row([short])))
        self.assertTrue(Row([GROW] * 6) == Row([GROW] * 5) >> Row([GROW]))
        self.assertEqual(Row([GROW] * 6).parted(Row([GROW] * 5)), "a")

    def test_texts_of_symbols_of_both(self):
        self.assertEqual(Row([(("", "c", "d", ""),)]).parted(Row([(("", "c", "e", ""),)])), "c")
        told = Row([(("q", "x", "", ""),)]).parted(Row([(("", "x", "", ""),)]))
        self.assertEqual(len(told), 1)
        self.assertEqual(told, "x")

    def test_rows_are_equal_to_nothing_else(self):
        for row in (Row([]), Row([SWAPS]), Row([wide_book(26, 5)] * 6)):
            for thing in THINGS + [row.books, tuple(row.books), SWAPS, "Row", 0, object()]:
                self.assertIs(row == thing, False)
                self.assertIs(row != thing, True)
                self.assertIs(thing == row, False)
                self.assertIs(thing != row, True)

    def test_parted_from_no_row(self):
        for row in (Row([]), Row([SWAPS]), Row([wide_book(26, 5)] * 6)):
            for thing in THINGS + [row.books, tuple(row.books), SWAPS]:
                with self.assertRaises(InvalidRow):
                    row.parted(thing)

    def test_rows_without_books(self):
        self.assertTrue(Row([]) == Row([]))
        self.assertFalse(Row([]) != Row([]))
        self.assertIsNone(Row([]).parted(Row([])))
        self.assertIsNone(Row([()] * 6).parted(Row([()] * 6)))

    def test_just_at_the_bounds_and_just_beyond(self):
        for many, rows in BOUNDS.items():
            for looked_at, signs in rows:
                for ones in sorted({max(0, many - 6), many // 2, min(6, many)}):
                    self.at_and_beyond(ones, many - ones, looked_at, signs)

    def at_and_beyond(self, ones, others, looked_at, signs):
        if signs > 1:
            book = wide_book(signs, looked_at)
            self.assertLessEqual(size([book] * ones, [book] * others), 5000)
            one, other = Row([book] * ones), Row([book] * others)
            self.assertIs(one == other, one.parted(other) is None)
            self.assertIs(one != other, one.parted(other) is not None)
        if (signs + 1) ** ((looked_at - 1) * (ones + others)) > 5000:
            book = wide_book(signs + 1, looked_at)
            self.too_many(Row([book] * ones), Row([book] * others))

    def too_many(self, one, other):
        for call in (lambda: one == other, lambda: one != other, lambda: one.parted(other)):
            with self.assertRaises(TooMany):
                call()

    def test_a_row_and_itself(self):
        row = Row([(("", "abc", "", ""),)])
        self.assertEqual(4 ** (2 * 2), 256)
        self.assertTrue(row == row)
        self.assertFalse(row != row)
        self.assertIsNone(row.parted(row))
        row = Row([(("", "abc", "", ""),)] * 3)
        self.too_many(row, row)
        full = Row([(FULL,)])
        self.too_many(full, full)

    def test_letters_of_all_books_count_together(self):
        one, other = Row([(("", "ab", "", ""),)]), Row([(("", "cd", "ef", ""),), (("", "gh", "", ""),)])
        self.assertEqual(9**3, 729)
        self.assertEqual(one.parted(other), "ab")
        more = Row([(("", "cd", "ef", ""), ("", "ij", "klm", ""), ("", "nop", "qr", "")), ()])
        self.too_many(one, more)
        # A book that looks at many letters counts, though the other ones look at few.
        one, other = Row([(("a", "aaa", "", ""),)]), Row([(("", "b", "cde", ""),)] * 2)
        self.too_many(one, other)
        self.too_many(other, one)

    def test_too_many_is_told_by_comparing_alone(self):
        row = Row([wide_book(26, 5)] * 3)
        self.assertEqual(len(row >> row), 6)
        self.assertIs(wide_book(26, 5) in row, True)
        self.assertEqual(row("zzz"), makes(row.books, "zzz"))

    def test_arguments_are_as_before(self):
        ones, others = [TURN, SWAPS], [SWAPS]
        before = copy.deepcopy((ones, others))
        one, other = Row(ones), Row(others)
        for _ in range(2):
            self.assertEqual(one.parted(other), one.parted(other))
        self.assertEqual((ones, others), before)
        self.assertEqual((one.books, other.books), before)
