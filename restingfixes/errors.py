"""The errors of the package; all are kinds of FixError and of no other kind."""


class FixError(ValueError):
    """The base class of all errors."""


class InvalidWord(FixError):
    """A value that is no text of letters."""


class InvalidBook(FixError):
    """A value that is no book."""


class InvalidNumber(FixError):
    """A value that is no number of the kind that is asked for."""


class InvalidLetters(FixError):
    """A value that is no ascending string of letters, or a text with other letters."""


class TooMany(FixError):
    """There is more to look at than the document lets a call look at."""


class InvalidText(FixError):
    """A text that has not the form of a book; `at` is the place where it goes wrong."""

    def __init__(self, at):
        self.at = at


class InvalidPairs(FixError):
    """A value that is no list of pairs of words."""


class InvalidRow(FixError):
    """A value that is no row of books, or no Row where one is asked for."""


class InvalidPlace(FixError):
    """A value that is no place in the text of a desk."""


class NothingToUndo(FixError):
    """No deed stands that can be taken back."""


class NothingToRedo(FixError):
    """No deed was taken back that can be done again."""


class UnknownDeed(FixError):
    """An entry of a list of deeds that has none of their forms."""


class InvalidLine(FixError):
    """A wrong line of a paper; `line` is its number and `reason` a word for what is wrong."""

    def __init__(self, line, reason):
        self.line = line
        self.reason = reason
