"""Texts of books: each fix as ahead/old>new/behind, a comma between two."""

from restingfixes.books import ALPHABET, check_book
from restingfixes.errors import InvalidText

# One sign behind each word of a fix but the last, which a comma or the end follows.
SIGNS = "/>/"


def book_text(book):
    """Return the text of a book."""
    check_book(book)
    return ", ".join([f"{ahead}/{old}>{new}/{behind}" for ahead, old, new, behind in book])


def read_book(text):
    """Return the book of a text; raise InvalidText, then InvalidBook."""
    if not isinstance(text, str):
        raise InvalidText(0)
    book = read_fixes(text)
    check_book(book)
    return book


def read_fixes(text):
    """Return a tuple of what stands in the form of fixes, whatever their words are."""
    if skip_blanks(text, 0) == len(text):
        return ()
    fix, at = read_fix(text, 0)
    fixes = [fix]
    while at < len(text):
        fix, at = read_fix(text, skip_sign(text, at, ","))
        fixes.append(fix)
    return tuple(fixes)


def read_fix(text, at):
    """Return the four words that stand from a place on, and the place behind them."""
    words = []
    for sign in SIGNS:
        word, at = read_word(text, at)
        words.append(word)
        at = skip_sign(text, at, sign)
    word, at = read_word(text, at)
    words.append(word)
    return tuple(words), at


def read_word(text, at):
    """Return the word, perhaps empty, among blanks at a place, and the place behind it all."""
    begin = skip_blanks(text, at)
    end = begin
    while end < len(text) and text[end] in ALPHABET:
        end += 1
    return text[begin:end], skip_blanks(text, end)


def skip_blanks(text, at):
    """Return the first place from this one on where no blank stands."""
    while at < len(text) and text[at] == " ":
        at += 1
    return at


def skip_sign(text, at, sign):
    """Return the place behind a sign; raise InvalidText if it does not stand there."""
    # A text that ends too early goes wrong at its end, which is this same place.
    if at == len(text) or text[at] != sign:
        raise InvalidText(at)
    return at + 1
