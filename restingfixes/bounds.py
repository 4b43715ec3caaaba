"""Numbers that a call may ask for, and how much it may look at."""

from restingfixes.books import symbols
from restingfixes.errors import InvalidNumber, TooMany


def check_number(value, least, most):
    """Raise InvalidNumber unless the value is an integer from least to most."""
    if not is_number(value, least, most):
        raise InvalidNumber("a number of another kind is asked for")


def is_number(value, least, most):
    """Tell whether a value is an integer from least to most."""
    return isinstance(value, int) and not isinstance(value, bool) and least <= value <= most


def check_size(books, exponent, most):
    """Raise TooMany if the number of the symbols of some books to this power is more than most."""
    many = len(symbols(books))
    size = 1
    for _ in range(exponent):
        size = size * many
    if size > most:
        raise TooMany("the books have too many letters, or look at too many of them")


def looked_at(books):
    """Return the most letters that a fix of some books looks at, 1 if there is no fix."""
    return max([len(looked_for(fix)) for book in books for fix in book], default=1)


def looked_for(fix):
    """Return the letters that a fix looks at, in one word."""
    ahead, old, _, behind = fix
    return ahead + old + behind
