import copy
import itertools
import unittest

import plain
from restingfixes.errors import InvalidBook, InvalidNumber, TooMany
from restingfixes.resting import restless
from restingfixes.waking import row_of_wakes, wake, wakes
from samples import BOOKS, SWAP, wide_book, wrong_books, wrong_numbers

BOOKS_HERE = plain.small_books(31, 120) + plain.small_books(32, 25, "a", 5) + plain.small_books(33, 20, "abc") + [
    (),
    (SWAP,),
    (("", "b", "", ""), ("", "aa", "c", "")),
    (("", "b", "", ""), ("", "a", "", ""), ("", "cc", "a", "")),
    (("", "a", "b", ""), ("", "ab", "", ""), ("", "bb", "", "")),
]
# Letters looked at and the most symbols without TooMany.
BOUNDS = [(1, 21), (2, 24), (3, 4), (4, 2), (5, 2)]


def is_small(book):
    return len(plain.symbols(book)) ** ((plain.looked_at(book) - 1) * 2) <= 600


class Examples(unittest.TestCase):
    def test_wakes(self):
        book = (("", "b", "", ""), ("", "aa", "c", ""))
        self.assertEqual(wakes(book), [(0, 1)])
        self.assertEqual(wake(book, 0, 1), "aba")

    def test_row_of_wakes(self):
        self.assertEqual(row_of_wakes((("", "a", "b", ""), ("", "b", "c", ""))), ("rests", [0, 1]))
        self.assertEqual(row_of_wakes((("", "ab", "ba", ""),)), ("ring", [0]))


class Wake(unittest.TestCase):
    def test_all_short_texts(self):
        for book in BOOKS_HERE:
            if is_small(book):
                self.look_at(book, 5 if len(plain.symbols(book)) < 4 else 4)

    def look_at(self, book, most):
        shortest = {}
        for text in plain.texts(plain.symbols(book), most):
            for pair in plain.woken(book, text):
                shortest.setdefault(pair, text)
        told = wakes(book)
        self.assertEqual(told, sorted(set(told)))
        numbers = range(len(book))
        for one, other in itertools.product(numbers, numbers):
            text = wake(book, one, other)
            self.assertEqual(text is not None, (one, other) in told)
            if text is not None:
                self.assertIn((one, other), plain.woken(book, text), (book, text))
            if (one, other) in shortest:
                self.assertEqual(len(text), len(shortest[one, other]), (book, one, other, text))
            else:
                self.assertTrue(text is None or len(text) > most, (book, one, other, text))

    def test_new_words_that_are_empty(self):
        book = (("", "b", "", ""), ("a", "a", "", ""), ("", "c", "", "a"))
        self.assertEqual(wakes(book), [(0, 1), (0, 2), (1, 1), (2, 1), (2, 2)])
        self.assertEqual([wake(book, 0, 1), wake(book, 0, 2), wake(book, 2, 1)], ["aba", "cba", "aca"])
        self.assertEqual(len(wake(book, 1, 1)), 4)
        # Nothing stands on one side at the beginning and at the end of a text.
        self.assertEqual(wakes((("", "b", "", ""), ("", "a", "", ""))), [])

    def test_old_words_taken_out_beside_one_another(self):
        book = (("", "b", "", ""), ("", "cd", "", ""), ("", "aa", "x", ""))
        self.assertIn((0, 2), plain.woken(book, "abcda"))
        self.assertIn((1, 2), plain.woken(book, "abcda"))
        self.assertEqual(wakes(book), [(0, 1), (0, 2), (1, 1), (1, 2)])
        self.assertEqual([wake(book, *pair) for pair in wakes(book)], ["cbd", "aba", "ccdd", "acda"])

    def test_each_neighbour_may_have_been_put_in(self):
        # Of "efg" comes "ab", each letter of which was put in, with what was taken out between.
        book = (("", "e", "a", ""), ("", "f", "", ""), ("", "g", "b", ""), ("", "ab", "", ""))
        self.assertEqual(plain.woken(book, "efg"), {(0, 3), (1, 3), (2, 3)})
        self.assertEqual(plain.woken(book, "eg"), {(0, 3), (2, 3)})
        self.assertEqual(wake(book, 1, 3), "afb")
        # Here there is no other way, as the letters of the last fix are always put in.
        book = (("", "e", "a", ""), ("", "f", "", ""), ("", "a", "", "c"), ("", "aa", "c", ""))
        self.assertEqual(wake(book, 1, 3), "afa")
        self.assertEqual(wake(book, 0, 3), "ae")

    def test_new_words_put_in_beside_one_another(self):
        book = (("", "c", "a", ""), ("", "d", "b", ""), ("", "ab", "", ""))
        self.assertEqual(wakes(book), [(0, 2), (1, 2), (2, 2)])
        self.assertEqual([wake(book, 0, 2), wake(book, 1, 2)], ["cb", "ad"])
        self.assertEqual(plain.woken(book, "cd"), {(0, 2), (1, 2)})
        # Only the ahead, or only the behind, was put in.
        book = (("", "c", "a", ""), ("a", "b", "x", ""), ("", "x", "y", "a"))
        self.assertEqual(wakes(book), [(0, 1), (0, 2), (1, 2)])
        self.assertEqual([wake(book, *pair) for pair in wakes(book)], ["cb", "xc", "aba"])

    def test_fixes_that_are_never_taken(self):
        first, same = ("", "a", "b", ""), ("", "a", "c", "d")
        book = (first, same, ("", "c", "a", ""), ("", "b", "d", ""))
        # The second fix is never taken and so wakes none, but it is woken.
        self.assertEqual([pair for pair in wakes(book) if pair[0] == 1], [])
        self.assertIn((2, 1), wakes(book))
        self.assertEqual(len(wake(book, 2, 1)), 2)
        self.assertIn((2, 1), plain.woken(book, "cd"))
        for number in range(4):
            self.assertIsNone(wake(book, 1, number))

    def test_letters_that_stay_wake_none(self):
        book = (("", "a", "b", ""), ("", "c", "d", ""))
        self.assertEqual(wakes(book), [])
        # Behind the round there is a finding, but none that was not there ahead of it.
        self.look_at((("", "ab", "", ""), ("", "b", "c", "a"), ("", "a", "a", "x")), 5)

    def test_wakes_is_empty_just_if_one_round_is_enough(self):
        told = {True: 0, False: 0}
        for book in BOOKS_HERE:
            if is_small(book):
                self.assertEqual(wakes(book) == [], restless(book, 1) is None, book)
                told[wakes(book) == []] += 1
        self.assertGreater(min(told.values()), 10)


class RowOfWakes(unittest.TestCase):
    def test_a_ring_of_one_or_a_longest_row(self):
        for book in BOOKS_HERE:
            if is_small(book):
                pairs = wakes(book)
                kind, numbers = row_of_wakes(book)
                lengths = {"ring": [], "rests": [0]}
                for size in range(1, len(book) + 1):
                    for row in itertools.permutations(range(len(book)), size):
                        if all([pair in pairs for pair in zip(row, row[1:])]):
                            lengths["rests"].append(size)
                            lengths["ring"] += [size] if (row[-1], row[0]) in pairs else []
                self.assertEqual(kind, "ring" if lengths["ring"] else "rests")
                self.assertEqual(len(set(numbers)), len(numbers))
                for pair in zip(numbers, numbers[1:]):
                    self.assertIn(pair, pairs)
                if kind == "ring":
                    self.assertIn((numbers[-1], numbers[0]), pairs)
                else:
                    self.assertEqual(len(numbers), max(lengths["rests"]))
                    self.at_rest_behind(book, len(numbers))

    def at_rest_behind(self, book, many):
        for text in plain.texts(plain.symbols(book), 4):
            self.assertEqual(plain.findings(book, plain.behind(book, text, many)), [], (book, text, many))

    def test_a_ring_of_several(self):
        turn = (("", "a", "b", ""), ("", "b", "c", ""), ("", "c", "a", ""))
        kind, numbers = row_of_wakes(turn)
        self.assertEqual(kind, "ring")
        self.assertIn(numbers, [[0, 1, 2], [1, 2, 0], [2, 0, 1]])
        kind, numbers = row_of_wakes((("", "x", "y", ""), ("", "a", "b", ""), ("", "b", "a", "")))
        self.assertEqual((kind, sorted(numbers)), ("ring", [1, 2]))
        kind, numbers = row_of_wakes((("", "x", "a", ""), ("", "a", "b", ""), ("", "b", "bb", "")))
        self.assertEqual((kind, numbers), ("ring", [2]))

    def test_without_any(self):
        self.assertEqual(row_of_wakes(()), ("rests", []))
        self.assertEqual(wakes(()), [])
        kind, numbers = row_of_wakes((("", "a", "b", ""), ("", "c", "d", "")))
        self.assertEqual(kind, "rests")
        self.assertIn(numbers, [[0], [1]])
        self.assertEqual(row_of_wakes((("", "a", "", ""),)), ("rests", [0]))

    def test_a_row_of_five(self):
        row = tuple([("", old, new, "") for old, new in zip("edcba", "fedcb")])
        self.assertEqual(row_of_wakes(row), ("rests", [4, 3, 2, 1, 0]))

    def test_answers_are_new(self):
        book = (("", "a", "b", ""), ("", "b", "c", ""))
        before = copy.deepcopy(book)
        for _ in range(2):
            told = row_of_wakes(book=book)
            self.assertEqual(told, ("rests", [0, 1]))
            told[1].append(5)
            pairs = wakes(book=book)
            self.assertEqual(pairs, [(0, 1)])
            pairs.append(5)
            self.assertEqual(wake(book=book, one=0, other=1), "a")
        self.assertEqual(book, before)


class Errors(unittest.TestCase):
    def test_no_book(self):
        for wrong in wrong_books():
            for function in (wakes, row_of_wakes):
                with self.assertRaises(InvalidBook):
                    function(wrong)
            for one, other in ((0, 0), (None, 0), (0, 9), (True, None)):
                with self.assertRaises(InvalidBook):
                    wake(wrong, one, other)

    def test_no_number(self):
        for book in [book for book in BOOKS if book] + [wide_book(26, 5)]:
            for wrong in wrong_numbers(0, len(book) - 1):
                for one, other in ((wrong, 0), (0, wrong), (wrong, wrong)):
                    with self.assertRaises(InvalidNumber):
                        wake(book, one, other)
        for one, other in ((0, 0), (-1, -1), (0, None)):
            with self.assertRaises(InvalidNumber):
                wake((), one, other)

    def test_just_at_the_bounds_and_just_beyond(self):
        for looked_at, signs in BOUNDS:
            book = wide_book(signs, looked_at)
            self.assertTrue(is_small(book))
            for function in (wakes, row_of_wakes, lambda value: wake(value, 4, 0)):
                function(book)
                if (signs + 1) ** ((looked_at - 1) * 2) > 600:
                    with self.assertRaises(TooMany):
                        function(wide_book(signs + 1, looked_at))
