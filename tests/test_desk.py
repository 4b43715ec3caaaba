import copy
import random
import unittest

import plain
from restingfixes.desk import Desk, try_all
from restingfixes.errors import (
    InvalidBook,
    InvalidPlace,
    InvalidWord,
    NothingToRedo,
    NothingToUndo,
    TooMany,
    UnknownDeed,
)
from samples import BOOKS, FULL, NO_NUMBERS, SHORT, SWAP, THINGS, wrong_books, wrong_texts

SWAPS = (SWAP,)
GROW = (("", "a", "aaa", ""),)
BIG = [-1, -5, 10**100 - 1, -(10**100) + 1]


class Stop(BaseException):
    """An error that is no Exception."""


def stand(desk):
    return desk.book, desk.text


def whole(desk):
    """All that can be told of a desk: what stands, what stood, and what may be done again.

    The desk is as before behind it."""
    behind, ahead = [], []
    while can(desk.undo, NothingToUndo):
        behind.append(stand(desk))
    for _ in behind:
        desk.redo()
    here = stand(desk)
    while can(desk.redo, NothingToRedo):
        ahead.append(stand(desk))
    for _ in ahead:
        desk.undo()
    return behind, here, ahead


def can(deed, error):
    try:
        deed()
    except error:
        return False
    return True


def busy_desk():
    """A desk with two deeds that stand and two that were taken back."""
    desk = Desk(SWAPS, "aabb")
    desk.round()
    desk.put(0, "c")
    desk.rule(GROW)
    desk.strike(1, 2)
    desk.undo()
    desk.undo()
    return desk


class Deeds(unittest.TestCase):
    def test_example(self):
        desk = Desk((("", "ab", "ba", ""),), "ab")
        self.assertIsNone(try_all(desk, [("round",), ("put", 0, "a")]))
        self.assertEqual([desk.text, desk.findings(), len(desk)], ["aba", [(0, 0)], 3])

    def test_a_new_desk(self):
        for book in BOOKS:
            for text in ("", "a", "abc" * 66, "z" * 200):
                desk = Desk(book=book, text=text)
                self.assertEqual((desk.book, desk.text, len(desk)), (book, text, len(text)))
                self.assertEqual(whole(desk), ([], (book, text), []))

    def test_put(self):
        for at in range(5):
            for word in ("", "x", "xyz"):
                desk = Desk(SWAPS, "abab")
                self.assertIsNone(desk.put(at, word))
                self.assertEqual(desk.text, "abab"[:at] + word + "abab"[at:])
                self.assertEqual((len(desk), desk.book), (4 + len(word), SWAPS))
                self.assertEqual(desk.text[at:at + len(word)], word)
        desk.put(word="q", at=0)
        self.assertEqual(desk.text[0], "q")

    def test_strike(self):
        for begin in range(5):
            for end in range(begin, 5):
                desk = Desk(SWAPS, "abcd")
                self.assertIsNone(desk.strike(begin, end))
                self.assertEqual(desk.text, "abcd"[:begin] + "abcd"[end:])
        desk = Desk(SWAPS, "abcd")
        desk.strike(end=3, begin=1)
        self.assertEqual(desk.text, "ad")

    def test_rule(self):
        for book in BOOKS:
            desk = Desk(SWAPS, "abc")
            self.assertIsNone(desk.rule(book=book))
            self.assertEqual(stand(desk), (book, "abc"))

    def test_round(self):
        for book in BOOKS + plain.small_books(111, 40):
            for text in ("", "aabb", "abcabq", "xabcq", "vabva"):
                desk = Desk(book, text)
                for _ in range(3):
                    self.assertIsNone(desk.round())
                    text = plain.one_round(book, text)
                    self.assertEqual(stand(desk), (book, text))

    def test_findings_and_taken(self):
        for book in BOOKS + plain.small_books(112, 40):
            for text in ("", "aabb", "aaaba", "xabcq", "bbbaabab"):
                desk = Desk(book, text)
                self.assertEqual(desk.findings(), plain.findings(book, text))
                self.assertEqual(desk.taken(), plain.taken(book, text))
                self.assertEqual(whole(desk), ([], (book, text), []))

    def test_the_lists_are_new(self):
        desk = Desk(SWAPS, "abab")
        for call in (desk.findings, desk.taken):
            told = call()
            self.assertEqual(told, [(0, 0), (2, 0)])
            told.clear()
            self.assertEqual(call(), [(0, 0), (2, 0)])
            self.assertIsNot(call(), call())

    def test_properties_cannot_be_assigned(self):
        desk = Desk(SWAPS, "ab")
        for name in ("book", "text"):
            with self.assertRaises(AttributeError):
                setattr(desk, name, ())
        self.assertEqual(stand(desk), (SWAPS, "ab"))

    def test_desks_have_their_own(self):
        one, other = Desk(SWAPS, "ab"), Desk(SWAPS, "ab")
        one.round()
        self.assertEqual((one.text, other.text), ("ba", "ab"))
        with self.assertRaises(NothingToUndo):
            other.undo()
        one.undo()
        with self.assertRaises(NothingToRedo):
            other.redo()


class Bounds(unittest.TestCase):
    def test_two_hundred_letters(self):
        desk = Desk(GROW, "b" * 190)
        desk.put(0, "b" * 10)
        self.assertEqual(len(desk), 200)
        for at, word in ((0, "b"), (200, "b"), (7, "a" * 200)):
            self.refused(desk, lambda: desk.put(at, word), TooMany)
        desk.put(100, "")
        desk.strike(0, 200)
        desk.put(0, "c" * 200)
        self.assertEqual(desk.text, "c" * 200)

    def test_a_round_that_makes_too_much(self):
        for many, letters in ((66, 2), (67, 0), (66, 3), (67, 1), (200, 0)):
            desk = Desk(GROW, "a" * many + "b" * letters)
            if 3 * many + letters <= 200:
                desk.round()
                self.assertEqual(desk.text, "aaa" * many + "b" * letters)
            else:
                self.refused(desk, desk.round, TooMany)

    def refused(self, desk, deed, error):
        before = whole(desk)
        with self.assertRaises(error):
            deed()
        self.assertEqual(whole(desk), before)


class Refused(unittest.TestCase):
    def refused(self, error, deed):
        """Look that a deed is refused with this error, and changes nothing."""
        for desk in (busy_desk(), Desk(SWAPS, "abab")):
            before = whole(desk)
            with self.assertRaises(error):
                deed(desk)
            self.assertEqual(whole(desk), before)

    def test_no_desk(self):
        for wrong in wrong_books():
            for text in ("ab", None, "A"):
                with self.assertRaises(InvalidBook):
                    Desk(wrong, text)
        for wrong in wrong_texts():
            with self.assertRaises(InvalidWord):
                Desk(SWAPS, wrong)

    def test_put_at_no_place(self):
        for at in NO_NUMBERS + BIG + THINGS[8:] + [6, 7, 201]:
            for word in ("a", None, "A", "a" * 200):
                self.refused(InvalidPlace, lambda desk: desk.put(at, word))

    def test_put_no_word(self):
        for word in wrong_texts():
            for at in (0, 1, 4):
                self.refused(InvalidWord, lambda desk: desk.put(at, word))

    def test_put_too_many(self):
        for word in ("a" * 197, "a" * 200):
            self.refused(TooMany, lambda desk: desk.put(2, word))

    def test_strike_no_places(self):
        for place in NO_NUMBERS + BIG + THINGS[8:] + [6, 201]:
            for begin, end in ((place, 2), (0, place), (place, place), (2, place), (place, 0)):
                self.refused(InvalidPlace, lambda desk: desk.strike(begin, end))
        for begin, end in ((1, 0), (4, 3), (2, 1), (-1, 2), (0, -1), (-2, -1)):
            self.refused(InvalidPlace, lambda desk: desk.strike(begin, end))

    def test_places_by_the_text_as_it_is(self):
        desk = Desk((), "")
        desk.put(0, "")
        desk.strike(0, 0)
        for deed in (lambda: desk.put(1, "a"), lambda: desk.strike(0, 1), lambda: desk.strike(1, 1)):
            with self.assertRaises(InvalidPlace):
                deed()
        desk.put(0, "a")
        desk.put(1, "b")
        desk.strike(1, 2)
        self.assertEqual(desk.text, "a")

    def test_rule_no_book(self):
        for book in wrong_books()[::7] + wrong_books()[:40] + [None, [SWAP], (SWAP,) * 6]:
            self.refused(InvalidBook, lambda desk: desk.rule(book))

    def test_nothing_to_undo_or_redo(self):
        desk = Desk(SWAPS, "ab")
        for _ in range(2):
            with self.assertRaises(NothingToUndo):
                desk.undo()
            with self.assertRaises(NothingToRedo):
                desk.redo()
        desk.round()
        with self.assertRaises(NothingToRedo):
            desk.redo()
        desk.undo()
        with self.assertRaises(NothingToUndo):
            desk.undo()
        desk.redo()
        with self.assertRaises(NothingToRedo):
            desk.redo()
        self.assertEqual(whole(desk), ([(SWAPS, "ab")], (SWAPS, "ba"), []))


class Undo(unittest.TestCase):
    def test_back_and_again(self):
        desk = busy_desk()
        self.assertEqual(stand(desk), (SWAPS, "cabab"))
        self.assertIsNone(desk.redo())
        self.assertEqual(stand(desk), (GROW, "cabab"))
        desk.redo()
        self.assertEqual(stand(desk), (GROW, "cbab"))
        texts = []
        for _ in range(4):
            self.assertIsNone(desk.undo())
            texts.append(stand(desk))
        self.assertEqual(texts, [(GROW, "cabab"), (SWAPS, "cabab"), (SWAPS, "abab"), (SWAPS, "aabb")])

    def test_behind_another_deed_nothing_can_be_done_again(self):
        for deed in ("put", "strike", "rule", "round"):
            desk = busy_desk()
            arguments = {"put": (0, "x"), "strike": (0, 1), "rule": ((),), "round": ()}[deed]
            getattr(desk, deed)(*arguments)
            now = stand(desk)
            with self.assertRaises(NothingToRedo):
                desk.redo()
            self.assertEqual(whole(desk), ([(SWAPS, "cabab"), (SWAPS, "abab"), (SWAPS, "aabb")], now, []))

    def test_a_deed_that_changes_nothing(self):
        desk = busy_desk()
        for name, arguments in (("put", (1, "")), ("strike", (2, 2)), ("rule", (SWAPS,)), ("strike", (5, 5))):
            behind, here, _ = whole(desk)
            getattr(desk, name)(*arguments)
            self.assertEqual(whole(desk), ([here] + behind, here, []))
        desk = Desk((), "abc")
        desk.round()
        desk.round()
        self.assertEqual(whole(desk), ([((), "abc")] * 2, ((), "abc"), []))

    def test_many_deeds_against_a_plain_list(self):
        draw = random.Random(113)
        for _ in range(30):
            desk = Desk(SWAPS, "ab")
            stands, at = [(SWAPS, "ab")], 0
            for _ in range(120):
                kind = draw.choice(["put", "strike", "rule", "round", "undo", "undo", "redo"])
                book, text = stands[at]
                if kind in ("undo", "redo"):
                    to = at + (1 if kind == "redo" else -1)
                    error = NothingToRedo if kind == "redo" else NothingToUndo
                    self.assertIs(can(getattr(desk, kind), error), 0 <= to < len(stands))
                    at = to if 0 <= to < len(stands) else at
                else:
                    stands, at = self.do(desk, draw, kind, stands[:at + 1]), at + 1
                self.assertEqual(stand(desk), stands[at])
            self.assertEqual(whole(desk), (stands[:at][::-1], stands[at], stands[at + 1:]))

    def do(self, desk, draw, kind, stands):
        book, text = stands[-1]
        one, other = sorted([draw.randint(0, len(text)), draw.randint(0, len(text))])
        if kind == "put":
            word = "".join(draw.choices("ab", k=draw.randint(0, 3)))
            desk.put(one, word)
            text = text[:one] + word + text[one:]
        elif kind == "strike":
            desk.strike(one, other)
            text = text[:one] + text[other:]
        elif kind == "rule":
            book = draw.choice([SWAPS, (SHORT,), ()])
            desk.rule(book)
        else:
            desk.round()
            text = plain.one_round(book, text)
        return stands + [(book, text)]

    def test_thousands_of_deeds(self):
        desk = Desk(SWAPS, "")
        for number in range(20000):
            desk.put(0, "ab"[number % 2])
            desk.strike(0, 1)
        for _ in range(39999):
            desk.undo()
        self.assertEqual(desk.text, "a")
        desk.undo()
        with self.assertRaises(NothingToUndo):
            desk.undo()


class Trial(unittest.TestCase):
    def change(self, desk):
        desk.undo()
        desk.put(0, "xyz")
        desk.rule(())
        desk.strike(0, 1)
        desk.undo()

    def test_the_same_desk(self):
        desk = busy_desk()
        with desk.trial() as same:
            self.assertIs(same, desk)

    def test_without_an_error(self):
        desk, other = busy_desk(), busy_desk()
        with desk.trial() as same:
            self.change(same)
        self.change(other)
        self.assertEqual(whole(desk), whole(other))

    def test_left_by_an_error(self):
        for kind in (ValueError, KeyError, InvalidBook, Stop, KeyboardInterrupt, NothingToUndo, SystemExit):
            error = kind()
            desk = busy_desk()
            before = whole(desk)
            with self.assertRaises(kind) as caught:
                with desk.trial():
                    self.change(desk)
                    raise error
            self.assertIs(caught.exception, error)
            self.assertEqual(whole(desk), before)

    def test_left_by_a_refused_deed(self):
        desk = busy_desk()
        before = whole(desk)
        with self.assertRaises(InvalidPlace):
            with desk.trial() as same:
                self.change(same)
                same.put(99, "a")
        self.assertEqual(whole(desk), before)

    def test_left_by_return_and_break(self):
        desk = Desk(SWAPS, "ab")

        def leave():
            with desk.trial():
                desk.round()
                return desk.text

        self.assertEqual(leave(), "ba")
        for _ in range(3):
            with desk.trial():
                desk.put(0, "c")
                break
        self.assertEqual(whole(desk), ([(SWAPS, "ba"), (SWAPS, "ab")], (SWAPS, "cba"), []))

    def test_entered_again(self):
        desk = busy_desk()
        trial = desk.trial()
        for word in ("x", "y"):
            with self.assertRaises(Stop):
                with trial as same:
                    self.assertIs(same, desk)
                    self.change(desk)
                    raise Stop()
            before = whole(desk)
            desk.put(0, word)
            self.assertEqual(whole(desk)[0], [before[1]] + before[0])
            with trial:
                desk.put(0, "z")
            self.assertEqual(desk.text[:2], "z" + word)
        desk.strike(0, 1)
        before = whole(desk)
        with self.assertRaises(ValueError):
            with trial:
                self.change(desk)
                raise ValueError()
        self.assertEqual(whole(desk), before)

    def test_what_is_done_behind_it_stands_for_the_next_time(self):
        desk = Desk((), "a")
        trial = desk.trial()
        with self.assertRaises(Stop):
            with trial:
                desk.put(0, "b")
                raise Stop()
        desk.put(0, "c")
        desk.put(0, "d")
        with self.assertRaises(Stop):
            with trial:
                desk.undo()
                desk.undo()
                raise Stop()
        self.assertEqual(whole(desk), ([((), "ca"), ((), "a")], ((), "dca"), []))

    def test_one_in_another(self):
        desk = busy_desk()
        before = whole(desk)
        with self.assertRaises(KeyError):
            with desk.trial():
                desk.put(0, "x")
                between = whole(desk)
                with self.assertRaises(ValueError):
                    with desk.trial():
                        self.change(desk)
                        raise ValueError()
                self.assertEqual(whole(desk), between)
                desk.put(0, "y")
                raise KeyError()
        self.assertEqual(whole(desk), before)

    def test_two_desks(self):
        one, other = busy_desk(), busy_desk()
        before = whole(one)
        with self.assertRaises(Stop):
            with one.trial():
                one.put(0, "x")
                other.put(0, "x")
                raise Stop()
        self.assertEqual(whole(one), before)
        self.assertEqual(other.text, "xcabab")


class TryAll(unittest.TestCase):
    ALL = [("round",), ("put", 0, "ab"), ("undo",), ("redo",), ("rule", GROW), ("strike", 1, 3), ("undo",), ("round",)]

    def test_all_deeds(self):
        desk, other = busy_desk(), busy_desk()
        deeds = copy.deepcopy(self.ALL)
        self.assertIsNone(try_all(desk=desk, deeds=deeds))
        self.assertEqual(deeds, self.ALL)
        for deed in self.ALL:
            getattr(other, deed[0])(*deed[1:])
        self.assertEqual(whole(desk), whole(other))

    def test_no_deeds(self):
        desk = busy_desk()
        before = whole(desk)
        self.assertIsNone(try_all(desk, []))
        self.assertEqual(whole(desk), before)

    def test_refused_at_each_place(self):
        wrong = [
            (("put", 99, "a"), InvalidPlace),
            (("put", None, None), InvalidPlace),
            (("put", 0, None), InvalidWord),
            (("put", 0, "a" * 200), TooMany),
            (("strike", 1, 0), InvalidPlace),
            (("strike", "a", []), InvalidPlace),
            (("rule", [SWAP]), InvalidBook),
            (("rule", None), InvalidBook),
            (("walk",), UnknownDeed),
            (None, UnknownDeed),
        ]
        for deed, error in wrong:
            for place in range(len(self.ALL) + 1):
                self.refused(self.ALL[:place] + [deed] + self.ALL[place:], error)
        self.refused([("undo",)] * 3, NothingToUndo)
        self.refused([("redo",)] * 3, NothingToRedo)
        self.refused([("put", 0, ""), ("redo",)], NothingToRedo)
        self.refused([("rule", GROW)] + [("round",)] * 9, TooMany)

    def refused(self, deeds, error):
        desk = busy_desk()
        before = whole(desk)
        with self.assertRaises(error):
            try_all(desk, deeds)
        self.assertEqual(whole(desk), before)

    def test_the_first_wrong_entry_is_told(self):
        self.refused([("put", 99, "a"), None], InvalidPlace)
        self.refused([None, ("put", 99, "a")], UnknownDeed)
        self.refused([("rule", None), ("strike", 9, 0)], InvalidBook)

    def test_wrong_forms(self):
        forms = [("put", 3), ("strike", 3), ("rule", 2), ("round", 1), ("undo", 1), ("redo", 1)]
        wrong = THINGS + [(thing,) for thing in THINGS] + [(thing, 0, "a") for thing in THINGS]
        for word, length in forms:
            entry = (word,) + (0, "a")[:length - 1]
            wrong += [list(entry), entry + (0,), (entry,), (word.upper(),) + entry[1:], (word + " ",) + entry[1:]]
            wrong += [word, {word: entry}, ([word],) + entry[1:], ((word,),) + entry[1:], (None, word)]
            wrong += [entry[:-1], (word,) + (0,) * (length + 1), ("",) + entry, entry[1:]]
        for other in ("findings", "taken", "trial", "book", "text", "__len__", "_at", "do"):
            wrong += [(other,), (other, 0), (other, 0, "a")]
        for deed in wrong:
            self.refused([deed], UnknownDeed)
            self.refused([("round",), deed, ("round",)], UnknownDeed)

    def test_within_a_trial(self):
        desk = busy_desk()
        with desk.trial():
            desk.put(0, "x")
            between = whole(desk)
            with self.assertRaises(UnknownDeed):
                try_all(desk, [("undo",), ("round",), ()])
            self.assertEqual(whole(desk), between)
        self.assertEqual(desk.text, "xcabab")

    def test_a_long_list(self):
        desk = Desk((FULL,), "")
        try_all(desk, [("put", 0, "a"), ("strike", 0, 1)] * 3000)
        self.assertEqual(len(whole(desk)[0]), 6000)
