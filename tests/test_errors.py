import unittest

from restingfixes import errors
from restingfixes.errors import FixError, InvalidLine, InvalidText

PLAIN = [
    "InvalidWord",
    "InvalidBook",
    "InvalidNumber",
    "InvalidLetters",
    "TooMany",
    "InvalidPairs",
    "InvalidRow",
    "InvalidPlace",
    "NothingToUndo",
    "NothingToRedo",
    "UnknownDeed",
]
KINDS = PLAIN + ["InvalidText", "InvalidLine"]
INTEGERS = [0, 1, -1, 7, 10**100, -(10**100), 10**5000]


def kind(name):
    return getattr(errors, name)


def example(name):
    if name == "InvalidText":
        return InvalidText(3)
    if name == "InvalidLine":
        return InvalidLine(3, "fix")
    return kind(name)()


class Kinds(unittest.TestCase):
    def test_the_base_is_a_value_error(self):
        self.assertIn(ValueError, FixError.__bases__)

    def test_each_is_defined_here(self):
        for name in KINDS + ["FixError"]:
            self.assertEqual(kind(name).__module__, "restingfixes.errors")
            self.assertEqual(kind(name).__name__, name)

    def test_each_is_a_fix_error_and_none_of_the_others(self):
        for name in KINDS:
            error = example(name)
            self.assertIsInstance(error, FixError)
            self.assertIsInstance(error, ValueError)
            for other in KINDS:
                self.assertEqual(isinstance(error, kind(other)), name == other, (name, other))

    def test_the_base_is_none_of_the_kinds(self):
        for name in KINDS:
            self.assertNotIsInstance(FixError(), kind(name))

    def test_each_can_be_raised_and_caught(self):
        for name in KINDS:
            for caught in (kind(name), FixError, ValueError):
                with self.assertRaises(caught):
                    raise example(name)


class Plain(unittest.TestCase):
    def test_without_an_argument(self):
        for name in PLAIN + ["FixError"]:
            self.assertEqual(str(kind(name)()), "")

    def test_with_a_string(self):
        for name in PLAIN + ["FixError"]:
            for words in ("", "why", "a" * 2000):
                self.assertEqual(str(kind(name)(words)), words)


class Told(unittest.TestCase):
    def test_a_text_tells_its_place(self):
        for at in INTEGERS:
            self.assertEqual(vars(InvalidText(at)), {"at": at})
            self.assertEqual(vars(InvalidText(at=at)), {"at": at})

    def test_a_line_tells_its_number_and_reason(self):
        for line in INTEGERS:
            for reason in ("", "fix", "any words", "a" * 2000):
                told = {"line": line, "reason": reason}
                self.assertEqual(vars(InvalidLine(line, reason)), told)
                self.assertEqual(vars(InvalidLine(line=line, reason=reason)), told)

    def test_two_objects_have_their_own(self):
        one, other = InvalidText(1), InvalidText(2)
        self.assertEqual((one.at, other.at), (1, 2))
        one.at = 5
        self.assertEqual((one.at, other.at, InvalidText(3).at), (5, 2, 3))
        one, other = InvalidLine(1, "fix"), InvalidLine(2, "many")
        self.assertEqual((one.line, one.reason, other.line, other.reason), (1, "fix", 2, "many"))
        one.line, one.reason = 8, "end"
        self.assertEqual((other.line, other.reason), (2, "many"))

    def test_nothing_is_told_by_the_class(self):
        self.assertFalse(hasattr(InvalidText, "at"))
        self.assertFalse(hasattr(InvalidLine, "line"))
        self.assertFalse(hasattr(InvalidLine, "reason"))
