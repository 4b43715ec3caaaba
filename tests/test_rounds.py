import copy
import unittest

import plain
from restingfixes.errors import InvalidBook, InvalidNumber, InvalidWord, TooMany
from restingfixes.rounds import choices, course, ends, findings, one_round, rounds, taken
from samples import BOOKS, SWAP, wrong_books, wrong_numbers, wrong_texts

BY_TEXT = [findings, taken, one_round, choices, ends]
BY_NUMBER = [rounds, course]

# Small books that between them look ahead and behind, overlap, share places and change nothing.
BOOKS_HERE = plain.small_books(6, 60) + [
    (),
    (SWAP,),
    (("a", "b", "", ""), ("", "b", "a", "a")),
    (("", "aa", "b", ""), ("b", "a", "", "")),
    (("", "a", "a", ""),),
    (("", "ab", "", ""), ("", "ba", "", ""), ("", "b", "aa", "")),
    (("", "a", "ab", "b"), ("", "ab", "a", ""), ("a", "b", "b", "a"), ("", "aaa", "", "")),
]


class Examples(unittest.TestCase):
    def test_one_swap(self):
        book = (("", "ab", "ba", ""),)
        self.assertEqual(findings(book, "aabb"), [(1, 0)])
        self.assertEqual(one_round(book, "aabb"), "abab")
        self.assertEqual(rounds(book, "aabb", 3), ["aabb", "abab", "baba", "bbaa"])
        self.assertEqual(course(book, "aabb", 9), ("rests", 3))

    def test_findings_that_overlap(self):
        book = (("", "aa", "b", ""), ("b", "a", "", ""))
        self.assertEqual(taken(book, "aaaba"), [(0, 0), (4, 1)])
        self.assertEqual(choices(book, "aaa"), [[(0, 0)], [(1, 0)]])
        self.assertEqual(ends(book, "aaa"), ["ab", "ba"])


class OneRound(unittest.TestCase):
    def test_all_short_texts(self):
        for book in BOOKS_HERE:
            for text in plain.texts(plain.symbols(book), 5):
                self.assertEqual(findings(book, text), plain.findings(book, text), (book, text))
                self.assertEqual(taken(book, text), plain.taken(book, text), (book, text))
                self.assertEqual(one_round(book, text), plain.one_round(book, text), (book, text))

    def test_ahead_at_the_beginning(self):
        book = (("a", "b", "c", ""),)
        self.assertEqual(findings(book, "bab"), [(2, 0)])
        self.assertEqual(one_round(book, "bab"), "bac")
        self.assertEqual(findings(book, "b"), [])
        self.assertEqual(one_round(book, "bb"), "bb")

    def test_behind_at_the_end(self):
        book = (("", "b", "c", "a"),)
        self.assertEqual(findings(book, "bab"), [(0, 0)])
        self.assertEqual(one_round(book, "bab"), "cab")
        self.assertEqual(findings(book, "b"), [])
        self.assertEqual(taken(book, "bb"), [])

    def test_both_sides(self):
        book = (("a", "b", "", "c"),)
        self.assertEqual(taken(book, "abcbcabab"), [(1, 0)])
        self.assertEqual(one_round(book, "abcabc"), "acac")

    def test_sides_are_looked_for_ahead_of_the_round(self):
        # What comes in the place of the first letter is the ahead of the next one only behind the round.
        book = (("", "a", "x", ""), ("x", "b", "c", ""))
        self.assertEqual(rounds(book, "ab", 2), ["ab", "xb", "xc"])
        book = (("", "b", "x", ""), ("", "a", "c", "x"))
        self.assertEqual(rounds(book, "ab", 2), ["ab", "ax", "cx"])
        # And what goes away is still the ahead of the next one.
        book = (("", "a", "", ""), ("a", "b", "c", ""), ("", "d", "", "a"))
        self.assertEqual(taken(book, "dab"), [(0, 2), (1, 0), (2, 1)])
        self.assertEqual(one_round(book, "dab"), "c")

    def test_new_words_are_not_seen_in_this_round(self):
        self.assertEqual(one_round((("", "a", "aa", ""),), "aa"), "aaaa")
        self.assertEqual(one_round((("", "b", "", ""), ("", "aa", "c", "")), "aba"), "aa")
        self.assertEqual(one_round((("", "ab", "ba", ""),), "abb"), "bab")

    def test_several_fixes_at_one_place(self):
        book = (("", "a", "x", ""), ("", "ab", "y", ""), ("", "a", "z", "b"))
        self.assertEqual(findings(book, "cab"), [(1, 0), (1, 1), (1, 2)])
        self.assertEqual(taken(book, "cab"), [(1, 0)])
        self.assertEqual(one_round(book[1:], "cab"), "cy")
        self.assertEqual(one_round(book[2:], "cab"), "czb")

    def test_an_earlier_place_goes_ahead_of_an_earlier_fix(self):
        book = (("", "bc", "x", ""), ("", "ab", "y", ""))
        self.assertEqual(findings(book, "abc"), [(0, 1), (1, 0)])
        self.assertEqual(taken(book, "abc"), [(0, 1)])
        self.assertEqual(one_round(book, "abc"), "yc")

    def test_nothing_to_find(self):
        for book in BOOKS:
            self.assertEqual(findings(book, ""), [])
            self.assertEqual(taken(book, ""), [])
            self.assertEqual(one_round(book, ""), "")
        self.assertEqual(findings((), "abc"), [])
        self.assertEqual(one_round((), "abc"), "abc")
        self.assertEqual(one_round((SWAP,), "xyzxyz"), "xyzxyz")

    def test_texts_of_two_hundred_letters(self):
        book = (("", "aaa", "b", "a"), ("", "a", "cc", ""))
        for text in ("a" * 200, "ab" * 100, "aab" * 66, "aaaab" * 40):
            self.assertEqual(findings(book, text), plain.findings(book, text))
            self.assertEqual(taken(book, text), plain.taken(book, text))
            self.assertEqual(one_round(book, text), plain.one_round(book, text))


class Rounds(unittest.TestCase):
    def test_each_number_of_rounds(self):
        self.assertEqual(rounds((SWAP,), "ab", 0), ["ab"])
        self.assertEqual(rounds((SWAP,), "ab", 1), ["ab", "ba"])
        told = rounds((SWAP,), "a" * 30 + "b" * 30, 100)
        self.assertEqual(len(told), 101)
        self.assertEqual(told[-1], "b" * 30 + "a" * 30)
        self.assertEqual(told[59], told[60])
        self.assertNotEqual(told[58], told[59])

    def test_small_books(self):
        for book in BOOKS_HERE:
            for text in plain.texts(plain.symbols(book), 3):
                told = rounds(book, text, 3)
                self.assertEqual(told, [plain.behind(book, text, many) for many in range(4)])

    def test_too_many_letters(self):
        book = (("", "a", "aa", ""),)
        long = "a" * 156 + "b" * 16
        self.assertEqual(len(rounds(book, long, 6)[-1]), 10000)
        with self.assertRaises(TooMany):
            rounds(book, long + "b", 6)
        with self.assertRaises(TooMany):
            rounds(book, long, 7)
        with self.assertRaises(TooMany):
            rounds((("", "a", "aaa", ""),), "a", 100)

    def test_long_texts_take_little_time(self):
        grow = (("", "a", "aa", "x"), ("", "b", "bbb", "x"), ("", "c", "c", "c"))
        told = rounds((("", "b", "bbb", ""),) + grow, "b" * 123 + "a" * 37, 4)
        self.assertEqual(len(told[-1]), 123 * 81 + 37)
        keep = (("", "ab", "", "c"), ("", "aa", "", "b"), ("", "aaa", "", "c"), ("x", "a", "", ""))
        told = rounds((("", "d", "aaa", ""),) + keep, "d" * 200, 100)
        self.assertEqual(told[1], "a" * 600)
        self.assertEqual(told[100], "a" * 600)


class Course(unittest.TestCase):
    def test_rests(self):
        self.assertEqual(course((), "ab", 0), ("rests", 0))
        self.assertEqual(course((SWAP,), "", 0), ("rests", 0))
        self.assertEqual(course((SWAP,), "ba", 5), ("rests", 0))
        self.assertEqual(course((SWAP,), "ab", 1), ("rests", 1))
        self.assertEqual(course((SWAP,), "ab", 0), ("open",))

    def test_rests_just_at_most(self):
        text = "a" * 50 + "b" * 51
        self.assertEqual(course((SWAP,), text, 100), ("rests", 100))
        self.assertEqual(course((SWAP,), text, 99), ("open",))
        self.assertEqual(course((SWAP,), text + "b", 100), ("open",))

    def test_a_round_that_changes_nothing(self):
        book = (("", "a", "a", ""),)
        self.assertEqual(course(book, "a", 0), ("open",))
        self.assertEqual(course(book, "a", 1), ("ring", 0, 1))
        self.assertEqual(course(book, "a", 100), ("ring", 0, 1))
        # At rest is what has no finding, not what does not change.
        self.assertEqual(course(book, "b", 100), ("rests", 0))

    def test_a_ring_behind_some_rounds(self):
        book = (("", "a", "b", ""), ("", "b", "c", ""), ("", "c", "b", ""))
        self.assertEqual(rounds(book, "a", 3), ["a", "b", "c", "b"])
        self.assertEqual(course(book, "a", 3), ("ring", 1, 2))
        self.assertEqual(course(book, "a", 4), ("ring", 1, 2))
        self.assertEqual(course(book, "a", 2), ("open",))
        book = (("", "abc", "a", ""), ("", "a", "b", ""), ("", "b", "c", ""), ("", "c", "a", ""))
        self.assertEqual(course(book, "abc", 4), ("ring", 1, 3))
        self.assertEqual(course(book, "abc", 3), ("open",))

    def test_small_books(self):
        for book in BOOKS_HERE:
            for text in plain.texts(plain.symbols(book), 3):
                for most in (0, 1, 2, 5):
                    self.assertEqual(course(book, text, most), self.expected(book, text, most))

    def expected(self, book, text, most):
        told = [plain.behind(book, text, many) for many in range(most + 1)]
        for many in range(most + 1):
            if not plain.findings(book, told[many]):
                return ("rests", many)
            if told[many] in told[:many]:
                first = told.index(told[many])
                return ("ring", first, many - first)
        return ("open",)

    def test_too_many_letters(self):
        book = (("", "a", "aa", ""),)
        long = "a" * 156 + "b" * 16
        self.assertEqual(course(book, long, 6), ("open",))
        for text, most in ((long + "b", 6), (long, 7), ("a", 100)):
            with self.assertRaises(TooMany):
                course(book, text, most)
        # What stands behind a ring or a rest is not looked at, and no longer either.
        self.assertEqual(course((("", "a", "bbb", ""),), "a" * 200, 100), ("rests", 1))


class Choices(unittest.TestCase):
    def test_all_short_texts(self):
        for book in BOOKS_HERE:
            for text in plain.texts(plain.symbols(book), 4):
                if len(plain.findings(book, text)) < 9:
                    self.assertEqual(choices(book, text), plain.choices(book, text), (book, text))
                    self.assertEqual(ends(book, text), plain.ends(book, text), (book, text))

    def test_without_findings(self):
        for book, text in (((), ""), ((), "abc"), ((SWAP,), ""), ((SWAP,), "ba")):
            self.assertEqual(choices(book, text), [[]])
            self.assertEqual(ends(book, text), [text])

    def test_what_a_round_takes_is_a_choice(self):
        for book in BOOKS_HERE:
            for text in ("abaab", "aaabb", "bbabc", "ccaab"):
                self.assertIn(taken(book, text), choices(book, text))
                self.assertIn(one_round(book, text), ends(book, text))

    def test_several_fixes_at_one_place(self):
        book = (("", "a", "x", ""), ("", "a", "y", ""), ("", "a", "x", ""))
        self.assertEqual(choices(book, "ba"), [[(1, 0)], [(1, 1)], [(1, 2)]])
        self.assertEqual(ends(book, "ba"), ["bx", "by"])
        self.assertEqual(len(choices(book, "aaaaa")), 243)
        self.assertEqual(len(ends(book, "aaaaa")), 32)

    def test_findings_that_share_only_what_they_look_at_do_not_overlap(self):
        book = (("a", "b", "", "a"), ("b", "a", "", "b"))
        self.assertEqual(choices(book, "abab"), [[(1, 0), (2, 1)]])
        self.assertEqual(ends(book, "abab"), ["ab"])

    def test_just_500_choices(self):
        runs = "aaaaaaa" + "xaaaaaaa" * 2 + "xaaaaaa"
        for text in (runs, runs + "x" * 170, "x" * 170 + runs):
            told = choices((("", "aa", "b", ""),), text)
            self.assertEqual(len(told), 500)
            self.assertEqual(told, sorted(told))
            self.assertTrue(1 < len(ends((("", "aa", "b", ""),), text)) <= 500)
        book = (("", "bb", "", ""), ("", "b", "", ""), ("", "b", "", ""))
        self.assertEqual(len(choices(book, "bbcbcbbcccabbaccb")), 500)
        five = tuple([("", "a", new, "") for new in "bcde"]) + (("", "x", "x", ""),)
        self.assertEqual(len(choices(five, "aaaaxxxx")), 256)

    def test_more_than_500_choices(self):
        # 501 of them: one more than there may be.
        book = (("", "a", "", ""), ("", "aaa", "", ""), ("", "aa", "", ""), ("", "aab", "", ""), ("", "baa", "", ""))
        five = tuple([("", "a", new, "") for new in "bcdef"])
        pairs = (("", "aa", "b", ""),)
        more = [(book, "abbabbbaaabaaabaabaab"), (five, "aaaa"), (five, "a" * 200), (pairs, "a" * 200)]
        for wrong in more:
            for function in (choices, ends):
                with self.assertRaises(TooMany):
                    function(*wrong)
        self.assertEqual(len(choices(book, "abbabbbaaabaaabaabb")), self.count(book, "abbabbbaaabaaabaabb"))
        self.assertEqual(self.count(*more[0]), 501)
        self.assertEqual(len(choices(five, "aaa")), 125)

    def count(self, book, text):
        """How many choices there are, by all lots that do not overlap."""
        found = plain.findings(book, text)
        spots = {finding: plain.spot(book, finding) for finding in found}
        lots = [set()]
        for at in range(len(text)):
            here = [spots[finding] for finding in found if finding[0] == at]
            lots += [lot | spot for lot in lots if at not in lot for spot in here]
        return sum([all([lot & spot for spot in spots.values()]) for lot in lots])


class Shared(unittest.TestCase):
    """What holds of all functions of the module: document point [2]."""

    def calls(self):
        for book in BOOKS_HERE[-7:] + BOOKS:
            for text in ("", "a", "aabab", "xyabcq"):
                yield from [(function, (book, text)) for function in BY_TEXT]
                yield from [(function, (book, text, 3)) for function in BY_NUMBER]

    def test_arguments_by_name_and_not_modified_and_answers_new(self):
        for function, arguments in self.calls():
            before = copy.deepcopy(arguments)
            told = function(*arguments)
            names = ("book", "text", "many" if function is rounds else "most")
            again = function(**dict(zip(names, arguments)))
            self.assertEqual(told, again)
            self.assertEqual(arguments, before)
            if isinstance(told, list):
                self.assertIsNot(told, again)
                told.append("more")
                for part in told:
                    if isinstance(part, list):
                        part.append("more")
                self.assertEqual(function(*arguments), again)

    def test_each_list_stands_once(self):
        told = choices((("", "a", "b", ""), ("", "aa", "b", "")), "aaaa")
        self.assertEqual(len({id(part) for part in told}), len(told))

    def test_kinds_of_values(self):
        for function, arguments in self.calls():
            told = function(*arguments)
            if function in (findings, taken):
                self.assertTrue(all([type(part) is tuple and len(part) == 2 for part in told]))
            kinds = {one_round: str, course: tuple}
            self.assertIs(type(told), kinds.get(function, list))

    def test_no_book(self):
        for wrong in wrong_books():
            for function in BY_TEXT:
                for text in ("ab", None, "A"):
                    with self.assertRaises(InvalidBook):
                        function(wrong, text)
            for function in BY_NUMBER:
                for text, many in (("ab", 1), (None, 1), ("ab", None), (7, -1)):
                    with self.assertRaises(InvalidBook):
                        function(wrong, text, many)

    def test_no_text(self):
        grow = (("", "a", "aaa", ""),)
        for wrong in wrong_texts():
            for function in BY_TEXT:
                with self.assertRaises(InvalidWord):
                    function(grow, wrong)
            for function in BY_NUMBER:
                for many in (1, None, 101, 100):
                    with self.assertRaises(InvalidWord):
                        function(grow, wrong, many)

    def test_no_number(self):
        grow = (("", "a", "aaa", ""),)
        for wrong in wrong_numbers(0, 100):
            for function in BY_NUMBER:
                for text in ("", "a" * 200):
                    with self.assertRaises(InvalidNumber):
                        function(grow, text, wrong)
