"""A desk: a book and a text, deeds that change them, and deeds taken back and done again."""

from restingfixes.books import MOST_LETTERS, check_book, check_text
from restingfixes.bounds import is_number
from restingfixes.errors import InvalidPlace, NothingToRedo, NothingToUndo, TooMany, UnknownDeed
from restingfixes.rounds import all_findings, check_book_and_text, mended, round_findings

# The word of each deed, and how many parts its entry has.
FORMS = (("put", 3), ("strike", 3), ("rule", 2), ("round", 1), ("undo", 1), ("redo", 1))


class Trial:
    """A block in which a desk is as it was ahead of it if an error leaves the block."""

    def __init__(self, desk):
        self._desk = desk
        self._stands = []
        self._at = 0

    def __enter__(self):
        desk = self._desk
        # A copy, as the desk changes its own list.
        self._stands = list(desk._stands)
        self._at = desk._at
        return desk

    def __exit__(self, kind, value, trace):
        desk = self._desk
        if kind is not None:
            desk._stands = self._stands
            desk._at = self._at
        return False


class Desk:
    """A book and a text.

    All tuples (book, text) that stood, and those that were taken back and may be done again, stand
    in one list, with the number of the one that stands now."""

    def __init__(self, book, text):
        check_book_and_text(book, text)
        self._stands = [(book, text)]
        self._at = 0

    @property
    def book(self):
        """The book."""
        return self._stands[self._at][0]

    @property
    def text(self):
        """The text."""
        return self._stands[self._at][1]

    def __len__(self):
        return len(self.text)

    def put(self, at, word):
        """Put letters in at a place."""
        if not is_number(at, 0, len(self)):
            raise InvalidPlace("a place in the text or at its end is asked for")
        check_text(word)
        self._take_stand(self.book, self.text[:at] + word + self.text[at:])

    def strike(self, begin, end):
        """Take out the letters from one place up to another one."""
        if not is_number(begin, 0, len(self)) or not is_number(end, begin, len(self)):
            raise InvalidPlace("two places in the text or at its end are asked for, the first not behind")
        self._take_stand(self.book, self.text[:begin] + self.text[end:])

    def rule(self, book):
        """Take another book."""
        check_book(book)
        self._take_stand(book, self.text)

    def round(self):
        """Do one round."""
        self._take_stand(self.book, mended(self.book, self.text))

    def undo(self):
        """Take back the last deed that stands."""
        if self._at == 0:
            raise NothingToUndo("no deed stands")
        self._at -= 1

    def redo(self):
        """Do the deed again that was taken back last."""
        if self._at + 1 == len(self._stands):
            raise NothingToRedo("no deed was taken back and not done again")
        self._at += 1

    def findings(self):
        """Return the ascending list of all findings of the text."""
        return all_findings(self.book, self.text)

    def taken(self):
        """Return the list of the findings that a round takes."""
        return round_findings(self.book, self.text)

    def trial(self):
        """Return a Trial of this desk, for `with`."""
        return Trial(self)

    def _take_stand(self, book, text):
        """Let a book and a text stand behind a deed, with nothing left to be done again."""
        if len(text) > MOST_LETTERS:
            raise TooMany("the text would have more than 200 letters")
        del self._stands[self._at + 1:]
        self._stands.append((book, text))
        self._at += 1


def try_all(desk, deeds):
    """Do all deeds of a list, or none if one of them is refused."""
    with desk.trial():
        for deed in deeds:
            do_deed(desk, deed)


def do_deed(desk, deed):
    """Do what one entry of a list of deeds tells."""
    if not isinstance(deed, tuple) or deed == () or (deed[0], len(deed)) not in FORMS:
        raise UnknownDeed("an entry of another form is asked for")
    if deed[0] == "put":
        desk.put(deed[1], deed[2])
    elif deed[0] == "strike":
        desk.strike(deed[1], deed[2])
    elif deed[0] == "rule":
        desk.rule(deed[1])
    elif deed[0] == "round":
        desk.round()
    elif deed[0] == "undo":
        desk.undo()
    else:
        desk.redo()
