"""Letters, words, texts, fixes and books."""

from restingfixes.errors import InvalidBook, InvalidWord

ALPHABET = "abcdefghijklmnopqrstuvwxyz"
MOST_FIXES = 5
MOST_LETTERS = 200


def check_book(book):
    """Raise InvalidBook unless the value is a book."""
    if not is_book(book):
        raise InvalidBook("a book is a tuple of at most 5 fixes, each a tuple of four words")


def check_text(text):
    """Raise InvalidWord unless the value is a text of letters."""
    if not is_word(text, 0, MOST_LETTERS):
        raise InvalidWord("a text is a word of at most 200 letters")


def letters(book):
    """Return the letters that stand in a book, ascending."""
    check_book(book)
    return letters_of([book])


def symbols(books):
    """Return the letters that stand in some books and the least that does not, ascending."""
    used = letters_of(books)
    unused = [letter for letter in ALPHABET if letter not in used]
    return "".join(sorted(list(used) + unused[:1]))


def letters_of(books):
    """Return the letters that stand in some books, ascending."""
    words = [word for book in books for fix in book for word in fix]
    return "".join(sorted(set("".join(words))))


def is_book(value):
    """Tell whether a value is a book."""
    if not isinstance(value, tuple) or len(value) > MOST_FIXES:
        return False
    return all([is_fix(fix) for fix in value])


def is_fix(value):
    """Tell whether a value is a fix."""
    if not isinstance(value, tuple) or len(value) != 4:
        return False
    ahead, old, new, behind = value
    sides = is_word(ahead, 0, 1) and is_word(behind, 0, 1)
    return sides and is_word(old, 1, 3) and is_word(new, 0, 3)


def is_word(value, least, most):
    """Tell whether a value is a word of so many letters."""
    if not isinstance(value, str) or not least <= len(value) <= most:
        return False
    return all([letter in ALPHABET for letter in value])
