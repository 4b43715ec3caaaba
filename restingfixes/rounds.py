"""Findings of a text, rounds over it, and the choices among findings that overlap."""

from restingfixes.books import check_book, check_text
from restingfixes.bounds import check_number, looked_for
from restingfixes.errors import TooMany

MOST_ROUNDS = 100
MOST_LETTERS_BETWEEN = 10000
MOST_CHOICES = 500


def findings(book, text):
    """Return the ascending list of all findings of a text."""
    check_book_and_text(book, text)
    return all_findings(book, text)


def taken(book, text):
    """Return the list of the findings that a round takes."""
    check_book_and_text(book, text)
    return round_findings(book, text)


def one_round(book, text):
    """Return the text behind one round."""
    check_book_and_text(book, text)
    return mended(book, text)


def rounds(book, text, many):
    """Return the list of the texts behind 0, 1, .. up to so many rounds."""
    check_book_and_text(book, text)
    check_number(many, 0, MOST_ROUNDS)
    texts = [text]
    for _ in range(many):
        texts.append(mended_within_bounds(book, texts[-1]))
    return texts


def course(book, text, most):
    """Tell whether a text comes to rest, comes round, or neither within so many rounds."""
    check_book_and_text(book, text)
    check_number(most, 0, MOST_ROUNDS)
    now = text
    seen = {}
    for many in range(most + 1):
        if many > 0:
            now = mended_within_bounds(book, now)
        if is_at_rest(book, now):
            return ("rests", many)
        if now in seen:
            return ("ring", seen[now], many - seen[now])
        seen[now] = many
    return ("open",)


def choices(book, text):
    """Return the ascending list of all choices of a text."""
    check_book_and_text(book, text)
    return all_choices(book, text)


def ends(book, text):
    """Return the ascending list of the unlike texts that the choices of a text make of it."""
    check_book_and_text(book, text)
    return sorted(set([put_in(book, text, choice) for choice in all_choices(book, text)]))


def check_book_and_text(book, text):
    """Raise InvalidBook, then InvalidWord."""
    check_book(book)
    check_text(text)


def all_findings(book, text):
    """Return the ascending list of all findings of a text of any length."""
    found = []
    for at in range(len(text)):
        found.extend([(at, number) for number in range(len(book)) if stands_at(book[number], text, at)])
    return found


def stands_at(fix, text, at):
    """Tell whether the old word of a fix is found at a place of a text."""
    begin = at - len(fix[0])
    return begin >= 0 and text.startswith(looked_for(fix), begin)


def is_at_rest(book, text):
    """Tell whether a text of any length has no finding."""
    return not any([looked_for(fix) in text for fix in book])


def round_findings(book, text):
    """Return the list of the findings that a round takes of a text of any length."""
    # The words are put together once, as a text may have many thousands of places.
    wanted = [(number, looked_for(fix), len(fix[0])) for number, fix in enumerate(book)]
    found = []
    at = 0
    while at < len(text):
        number = first_at(wanted, text, at)
        if number is None:
            at += 1
        else:
            found.append((at, number))
            at += len(book[number][1])
    return found


def first_at(wanted, text, at):
    """Return the first number of a fix that is found at a place, None if there is none."""
    for number, word, shift in wanted:
        if shift <= at and text.startswith(word, at - shift):
            return number
    return None


def put_in(book, text, found):
    """Return a text with the new words of some findings, no two of which overlap, put in at once."""
    parts = []
    end = 0
    for at, number in found:
        parts.append(text[end:at] + book[number][2])
        end = at + len(book[number][1])
    return "".join(parts) + text[end:]


def mended(book, text):
    """Return what one round makes of a text of any length."""
    return put_in(book, text, round_findings(book, text))


def mended_within_bounds(book, text):
    """Return what one round makes of a text; raise TooMany if it is too long."""
    after = mended(book, text)
    if len(after) > MOST_LETTERS_BETWEEN:
        raise TooMany("a text between has more than 10,000 letters")
    return after


def all_choices(book, text):
    """Return the ascending list of all choices of a text; raise TooMany if there are too many."""
    found = all_findings(book, text)
    following = [next_in_choice(book, found, end) for end in range(len(text) + 1)]
    if count_choices(book, following) > MOST_CHOICES:
        raise TooMany("there are more than 500 choices")
    whole = []
    begun = [([], 0)]
    while begun:
        choice, end = begun.pop()
        if not following[end]:
            whole.append(choice)
        # The last one put on is the first one gone on with, so the choices come ascending.
        for at, number in reversed(following[end]):
            begun.append((choice + [(at, number)], at + len(book[number][1])))
    return whole


def next_in_choice(book, found, end):
    """Return the findings that may be the first one of a choice from a place on."""
    later = [finding for finding in found if finding[0] >= end]
    # A finding that begins where another one has ended would leave that one out without need.
    first_end = min([at + len(book[number][1]) for at, number in later], default=end)
    return [finding for finding in later if finding[0] < first_end]


def count_choices(book, following):
    """Return how many choices there are, without making them."""
    ways = [1] * len(following)
    for end in reversed(range(len(following))):
        if following[end]:
            ways[end] = sum([ways[at + len(book[number][1])] for at, number in following[end]])
    return ways[0]
