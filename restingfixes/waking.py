"""Which fix wakes which one: makes in a round what the other one finds behind it."""

from restingfixes.books import check_book, symbols
from restingfixes.bounds import check_number, check_size, looked_at, looked_for
from restingfixes.tables import piece_table

MOST_STATES = 600


def wake(book, one, other):
    """Return a shortest text over which the one fix wakes the other one, None if there is none."""
    check_book(book)
    check_number(one, 0, len(book) - 1)
    check_number(other, 0, len(book) - 1)
    check_waking(book)
    return first_waking(book, one, other)


def wakes(book):
    """Return the ascending list of the tuples (one, other) of which the one wakes the other one."""
    check_book(book)
    check_waking(book)
    return all_wakes(book)


def row_of_wakes(book):
    """Return a ring of fixes each of which wakes the next one, or a longest row of them."""
    check_book(book)
    check_waking(book)
    found = all_wakes(book)
    longest = []
    rows = [[number] for number in range(len(book))]
    while rows:
        for row in rows:
            if (row[-1], row[0]) in found:
                return ("ring", row)
        longest = rows[0]
        rows = [row + [more] for row in rows for more in range(len(book)) if goes_on(found, row, more)]
    return ("rests", longest)


def check_waking(book):
    """Raise TooMany if the book is too large."""
    check_size([book], (looked_at([book]) - 1) * 2, MOST_STATES)


def all_wakes(book):
    """Return the ascending list of the tuples of fixes of which the one wakes the other one."""
    numbers = range(len(book))
    pairs = [(one, other) for one in numbers for other in numbers]
    return [pair for pair in pairs if first_waking(book, pair[0], pair[1]) is not None]


def goes_on(found, row, more):
    """Tell whether a row of fixes each of which wakes the next one goes on with one more."""
    return more not in row and (row[-1], more) in found


def first_waking(book, one, other):
    """Return a shortest text of symbols over which the one fix wakes the other one, or None."""
    signs = symbols([book])
    steps, ends = piece_table(book, signs)
    word = looked_for(book[other])
    begin = (False, ())
    seen = {(0, begin): True}
    row = [("", 0, begin)]
    while row:
        longer = []
        # A copy is walked, as the list that grows here is called row afterwards.
        for text, state, watch in list(row):
            for sign in signs:
                to, pieces = steps[state][sign]
                behind = watch_on(word, watch, one, pieces)
                if watch_on(word, behind, one, ends[to]) is None:
                    return text + sign
                if (to, behind) not in seen:
                    seen[(to, behind)] = True
                    longer.append((text + sign, to, behind))
        row = longer
    return None


def watch_on(word, watch, one, pieces):
    """Return the watch behind some pieces that a round tells; None once the word was woken.

    A watch tells whether the fix one took letters out behind the last letter told, and what was
    told of the word: tuples (number of letters, whether the fix one had a hand in them)."""
    for number, put in pieces:
        if watch is not None and number == one and put == "":
            watch = (True, watch[1])
        for letter in put:
            if watch is not None:
                watch = watch_letter(word, watch, letter, number == one)
    return watch


def watch_letter(word, watch, letter, is_put):
    """Return the watch behind one more letter, None if the word was woken."""
    is_cut, begun = watch
    longer = []
    for length, is_marked in begun + ((0, False),):
        if word[length] == letter:
            # What is taken out ahead of the first letter of the word lies outside of it.
            longer.append((length + 1, is_marked or is_put or (is_cut and length > 0)))
    if (len(word), True) in longer:
        return None
    return (False, tuple([part for part in longer if part[0] < len(word)]))
