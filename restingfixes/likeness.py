"""Whether two books, or rows of rounds, make the same of all texts."""

from restingfixes.books import check_book, symbols
from restingfixes.bounds import check_number, check_size, looked_at
from restingfixes.tables import row_table, without_common

MOST_ROUNDS = 3
MOST_STATES = 5000


def alike(one, other, many):
    """Tell whether so many rounds by either book come to the same text for all texts."""
    return parted(one, other, many) is None


def parted(one, other, many):
    """Return a shortest text for which so many rounds by either book do not, None if there is none."""
    check_book(one)
    check_book(other)
    check_number(many, 0, MOST_ROUNDS)
    check_rows([one, other], 2 * many)
    return first_parted([one] * many, [other] * many)


def not_twice(book):
    """Return a shortest text for which two rounds come to another text than one, or None."""
    check_book(book)
    check_rows([book], 3)
    return first_parted([book], [book, book])


def check_rows(books, many):
    """Raise TooMany if the books are too large for so many rounds in both rows together."""
    check_size(books, (looked_at(books) - 1) * many, MOST_STATES)


def first_parted(ones, others):
    """Return a shortest text of symbols of which two rows of books make unlike texts, or None."""
    signs = symbols(ones + others)
    one, other = row_table(ones, signs), row_table(others, signs)
    seen = {(0, 0): True}
    # Behind each text stands what the one row has told beyond the other one, and the contrary. If
    # texts that come to the same states agree when they end there, they do so in this, too.
    row = [("", 0, 0, "", "")]
    while row:
        longer = []
        # A copy is walked, as the list that grows here is called row afterwards.
        for text, first, second, more, rest in list(row):
            for sign in signs:
                to, told = one[0][first][sign]
                behind, answer = other[0][second][sign]
                more_told, rest_told = without_common(more + told, rest + answer)
                if more_told + one[1][to] != rest_told + other[1][behind]:
                    return text + sign
                if (to, behind) not in seen:
                    seen[(to, behind)] = True
                    longer.append((text + sign, to, behind, more_told, rest_told))
        row = longer
    return None
