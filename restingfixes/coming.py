"""Texts that come round: the same again behind some rounds."""

from restingfixes.books import check_book, symbols
from restingfixes.bounds import check_number, check_size
from restingfixes.rounds import is_at_rest, mended

MOST_LENGTH = 8
MOST_TEXTS = 2000
MOST_ROUNDS = 12
MOST_LETTERS_BETWEEN = 100


def comes_round(book, most):
    """Return the first text of at most so many symbols that comes round, and the least number of
    rounds; None if there is none."""
    check_book(book)
    check_number(most, 0, MOST_LENGTH)
    check_size([book], most, MOST_TEXTS)
    signs = symbols([book])
    row = [""]
    for _ in range(most):
        row = [text + sign for text in row for sign in signs]
        for text in row:
            many = rounds_to_itself(book, text)
            if many is not None:
                return (text, many)
    return None


def rounds_to_itself(book, text):
    """Return the least number of rounds behind which a text with a finding is the same again, or None."""
    now = text
    many = 0
    # A text at rest stays as it is, so one that had a finding does not come again.
    while many < MOST_ROUNDS and len(now) <= MOST_LETTERS_BETWEEN and not is_at_rest(book, now):
        now = mended(book, now)
        many += 1
        if now == text:
            return many
    return None
