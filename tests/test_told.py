import copy
import itertools
import random
import unittest

import plain
from restingfixes.books import check_book
from restingfixes.errors import InvalidPairs
from restingfixes.rounds import one_round
from restingfixes.told import told_back
from samples import NO_WORDS, THINGS


def all_fixes(signs):
    """All fixes of some letters."""
    sides = [""] + list(signs)
    news = list(plain.texts(signs, 3))
    return [fix for fix in itertools.product(sides, news, news, sides) if fix[1]]


def expected(pairs, fixes):
    """Those fixes that make each after of its text, and find something in one text at least."""
    told = []
    for fix in fixes:
        if all([plain.one_round((fix,), text) == after for text, after in pairs]):
            if any([plain.findings((fix,), text) for text, _ in pairs]):
                told.append(fix)
    return sorted(told)


class Examples(unittest.TestCase):
    def test_one_pair(self):
        told = [("", "ab", "ad", ""), ("", "ab", "ad", "c"), ("", "abc", "adc", "")]
        self.assertEqual(told_back([("abc", "adc")])[:3], told)

    def test_two_pairs(self):
        told = told_back([("abc", "adc"), ("cbc", "cbc")])
        self.assertEqual(told[:3], [("", "ab", "ad", ""), ("", "ab", "ad", "c"), ("", "abc", "adc", "")])
        self.assertEqual(told[3:], [("a", "b", "d", ""), ("a", "b", "d", "c"), ("a", "bc", "dc", "")])


class Short(unittest.TestCase):
    def test_all_fixes_of_one_or_two_letters(self):
        draw = random.Random(91)
        for signs, many in (("a", 60), ("ab", 40)):
            fixes = all_fixes(signs)
            many_told = 0
            for _ in range(many):
                pairs = self.some_pairs(draw, signs, fixes)
                told = told_back(pairs)
                many_told += len(told)
                self.assertEqual(told, expected(pairs, fixes), pairs)
            self.assertGreater(many_told, many)

    def some_pairs(self, draw, signs, fixes):
        fix = draw.choice(fixes)
        texts = ["".join(draw.choices(signs, k=draw.randint(0, 6))) for _ in range(draw.randint(1, 3))]
        pairs = [(text, plain.one_round((fix,), text)) for text in texts]
        if draw.random() < 0.15:
            pairs[-1] = (pairs[-1][0], "".join(draw.choices(signs, k=draw.randint(0, 6))))
        return pairs

    def test_other_letters_in_what_comes(self):
        fixes = all_fixes("ax")
        one_pair = [[("aa", "xx")], [("aaa", "xa")], [("aaaa", "xxxx")]]
        for pairs in one_pair + [[("a", "xxx"), ("", "")], [("a", "x"), ("xa", "xx")]]:
            self.assertEqual(told_back(pairs), expected(pairs, fixes))
            self.assertGreater(len(told_back(pairs)), 0)

    def test_a_fix_that_makes_them_is_told(self):
        draw = random.Random(92)
        signs = "abcdefgh"
        for _ in range(60):
            old = "".join(draw.choices(signs, k=draw.randint(1, 3)))
            fix = ("", old, "".join(draw.choices("xyz", k=draw.randint(0, 3))), "")
            texts = ["".join(draw.choices(signs, k=8)) + fix[1] for _ in range(draw.randint(1, 8))]
            pairs = [(text, one_round((fix,), text)) for text in texts if len(one_round((fix,), text)) <= 20]
            told = told_back(pairs)
            self.assertIn(fix, told)
            self.right(pairs, told)

    def right(self, pairs, told):
        self.assertEqual(told, sorted(set(told)))
        for fix in told:
            check_book((fix,))
            self.assertIn(fix, expected(pairs, told))


class Told(unittest.TestCase):
    def test_fixes_that_change_nothing(self):
        told = told_back([("ab", "ab")])
        words = [("", "a", "a", ""), ("", "a", "a", "b"), ("", "ab", "ab", ""), ("", "b", "b", ""), ("a", "b", "b", "")]
        self.assertEqual(told, words)
        # What finds nothing in any text is not told.
        self.assertEqual(told_back([("a", "a"), ("", "")]), [("", "a", "a", "")])
        self.assertEqual(told_back([("a", "a"), ("b", "b")]), [("", "a", "a", ""), ("", "b", "b", "")])
        self.assertEqual(told_back([("a", "c"), ("b", "b")]), [("", "a", "c", "")])

    def test_nothing_to_tell(self):
        self.assertEqual(told_back([("", "")]), [])
        self.assertEqual(told_back([("", "a")]), [])
        self.assertEqual(told_back([("a", "bbbb")]), [])
        self.assertEqual(told_back([("a", "b"), ("a", "c")]), [])
        self.assertEqual(told_back([("aaaa", "")]), [("", "a", "", ""), ("", "aa", "", "")])
        self.assertEqual(told_back([("abcd", "xyzw")]), [])

    def test_each_length_of_a_new_word(self):
        for new in ("", "x", "xy", "xyz"):
            self.assertIn(("", "b", new, ""), told_back([("abc", "a" + new + "c")]))
            self.assertIn(("a", "b", new, "c"), told_back([("abc", "a" + new + "c")]))
        self.assertIn(("a", "bcd", "xyz", "e"), told_back([("abcde", "axyze")]))
        self.assertEqual(told_back([("abc", "awxyzc")]), [])
        self.assertEqual(told_back([("abcde", "")]), [])

    def test_several_findings_in_one_text(self):
        self.assertEqual(told_back([("abab", "xx")]), [("", "ab", "x", "")])
        # Findings that overlap: the first one is taken.
        self.assertIn(("", "aa", "b", ""), told_back([("aaa", "ba")]))
        self.assertIn(("a", "a", "b", ""), told_back([("aaa", "abb")]))
        self.assertIn(("a", "a", "", ""), told_back([("aaa", "a")]))

    def test_one_pair_and_eight(self):
        pair = ("abc", "adc")
        told = told_back([pair])
        self.assertEqual(told_back([pair] * 8), told)
        pairs = [("abc", "adc"), ("cbc", "cbc"), ("", ""), ("b", "b")]
        pairs += [("abb", "adb"), ("ab", "ad"), ("bab", "bad"), ("c", "c")]
        self.assertEqual(told_back(pairs), [("", "ab", "ad", ""), ("a", "b", "d", "")])
        # Told twice or in another order, they tell the same.
        self.assertEqual(told_back(pairs[::-1]), told_back(pairs))
        self.assertEqual(told_back(pairs[:4] + pairs[:4][::-1]), told_back(pairs[:4]))

    def test_texts_of_twenty_letters(self):
        alphabet = "abcdefghijklmnopqrst"
        told = told_back([(alphabet, alphabet)] * 8)
        # Of 20 + 19 + 18 old words those inside may stand beside two letters, or one, or none.
        self.assertEqual(len(told), sum([4 * (20 - size + 1) - 4 for size in (1, 2, 3)]))
        self.assertIn(("", "a", "b", ""), told_back([("a" * 20, "b" * 20)]))
        self.assertEqual(told_back([("a" * 20, "")]), [("", "a", "", ""), ("", "aa", "", "")])
        self.assertIn(("s", "t", "x", ""), told_back([(alphabet, alphabet[:19] + "x")]))

    def test_what_is_told_is_new(self):
        pairs = [("abc", "adc")]
        before = copy.deepcopy(pairs)
        told = told_back(pairs=pairs)
        many = len(told)
        told.clear()
        self.assertEqual(len(told_back(pairs)), many)
        self.assertEqual(pairs, before)


class Errors(unittest.TestCase):
    def test_no_pairs(self):
        right = ("ab", "ba")
        wrong = [thing for thing in THINGS] + [right, (right,), {right: right}, [right] * 9, [list(right)]]
        wrong += [[right, thing] for thing in THINGS] + [[thing] for thing in THINGS]
        wrong += [[("ab",)], [("ab", "ba", "ab")], [right, ("ab", "ba", "ab"), right], [()], ["ab"], [{"ab": "ba"}]]
        for word in NO_WORDS + ["A", "a b", "a1", "-", "a\n", "\t", "a" * 21, "a" * 2000, "`", "{"]:
            wrong += [[(word, "a")], [("a", word)], [right] * 7 + [("a", word)], [(word, word)]]
        for value in wrong:
            with self.assertRaises(InvalidPairs):
                told_back(value)

    def test_twenty_letters_and_twenty_one(self):
        for pair in (("a" * 20, "a" * 20), ("", "a" * 20), ("a" * 20, "")):
            told_back([pair])
        for pair in (("a" * 21, "a" * 20), ("a" * 20, "a" * 21), ("", "a" * 21), ("a" * 21, "")):
            for pairs in ([pair], [("a", "a"), pair]):
                with self.assertRaises(InvalidPairs):
                    told_back(pairs)
