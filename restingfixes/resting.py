"""Whether all texts are at rest behind some rounds, and the fewest fixes to put out for that."""

from restingfixes.books import check_book, symbols
from restingfixes.bounds import check_number, check_size, looked_at
from restingfixes.searching import FOUND, search_on, search_table
from restingfixes.tables import row_table

MOST_ROUNDS = 3
MOST_STATES = 5000
MOST_STATES_TO_PUT_OUT = 1000


def restless(book, many):
    """Return a shortest text that is not at rest behind so many rounds, None if there is none."""
    check_book(book)
    check_number(many, 0, MOST_ROUNDS)
    check_rounds(book, many, MOST_STATES)
    return first_restless(book, many)


def rounds_needed(book):
    """Return the least number of rounds behind which all texts are at rest, None beyond 3."""
    for many in range(MOST_ROUNDS + 1):
        if restless(book, many) is None:
            return many
    return None


def put_out(book, many):
    """Return the numbers of the fewest fixes without which all texts are at rest behind the rounds."""
    check_book(book)
    check_number(many, 0, MOST_ROUNDS)
    check_rounds(book, many, MOST_STATES_TO_PUT_OUT)
    lists = lists_of_numbers(len(book))
    at = 0
    # The last list leaves no fix, and then all texts are at rest.
    while first_restless(without(book, lists[at]), many) is not None:
        at += 1
    return lists[at]


def without(book, numbers):
    """Return a book without the fixes with some numbers."""
    return tuple([fix for number, fix in enumerate(book) if number not in numbers])


def check_rounds(book, many, most):
    """Raise TooMany if the book is too large for so many rounds."""
    check_size([book], (looked_at([book]) - 1) * (many + 1), most)


def first_restless(book, many):
    """Return a shortest text of symbols that is not at rest behind so many rounds, or None."""
    signs = symbols([book])
    steps, ends = row_table([book] * many, signs)
    search = search_table(book, signs)
    seen = {(0, 0): True}
    # The texts in row have the same length; one text stands for all that come to the same states.
    row = [("", 0, 0)]
    while row:
        longer = []
        # A copy is walked, as the list that grows here is called row afterwards.
        for text, state, place in list(row):
            for sign in signs:
                to, told = steps[state][sign]
                behind = search_on(search, place, told)
                if search_on(search, behind, ends[to]) == FOUND:
                    return text + sign
                if (to, behind) not in seen:
                    seen[(to, behind)] = True
                    longer.append((text + sign, to, behind))
        row = longer
    return None


def lists_of_numbers(many):
    """Return all ascending lists of numbers below many, shorter ones first, then ascending."""
    lists = [[]]
    row = [[]]
    for _ in range(many):
        row = [numbers + [more] for numbers in row for more in range(many) if numbers == [] or more > numbers[-1]]
        lists.extend(row)
    return lists
