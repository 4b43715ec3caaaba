"""Weights by which each fix makes a text lighter, or a sum of fixes that bars them."""

from math import gcd

from restingfixes.books import check_book, letters_of
from restingfixes.errors import TooMany

MOST_LETTERS = 6


def weights(book):
    """Return weights of the letters by which each fix falls, or how often to take each fix for a
    sum in which no letter is lost."""
    check_book(book)
    used = letters_of([book])
    if len(used) > MOST_LETTERS:
        raise TooMany("more than 6 letters stand in the book")
    falls = [[old.count(letter) - new.count(letter) for letter in used] for _, old, new, _ in book]
    heavy = inner_point(falls, len(used))
    # If each fix falls, it does so with a little more of each letter, too: so none of heavy is 0 then.
    if all([weighed(fall, heavy) > 0 for fall in falls]):
        return ("weights", {letter: heavy[at] for at, letter in enumerate(used)})
    gains = [[-fall[at] for fall in falls] for at in range(len(used))]
    return ("sum", edges(gains, len(book))[0])


def weighed(row, point):
    """Return the sum of the numbers of a row, each taken as often as the point tells."""
    return sum([number * many for number, many in zip(row, point)])


def inner_point(rows, size):
    """Return a point with as many sums above 0, of the rows and of single numbers, as there can be.

    Each other point is made of edges, so where one of them is above 0, one of its edges is."""
    found = edges(rows, size)
    return [sum([edge[at] for edge in found]) for at in range(size)]


def edges(rows, size):
    """Return the edges of the points of so many numbers of at least 0 by which each row weighs at
    least 0: points of which all others are made by stretching and adding, and no fewer."""
    sides = [[int(at == other) for other in range(size)] for at in range(size)]
    found = list(sides)
    for row in rows:
        pairs = [(one, other) for one in found for other in found if weighed(row, one) > 0 > weighed(row, other)]
        met = [meeting(row, one, other) for one, other in pairs if are_neighbours(sides, found, one, other)]
        found = [edge for edge in found if weighed(row, edge) >= 0] + met
        sides = sides + [row]
    return found


def are_neighbours(sides, found, one, other):
    """Tell whether no third edge lies on all the sides on which both of these lie."""
    common = [side for side in sides if weighed(side, one) == 0 and weighed(side, other) == 0]
    thirds = [edge for edge in found if edge != one and edge != other]
    return not any([all([weighed(side, edge) == 0 for side in common]) for edge in thirds])


def meeting(row, one, other):
    """Return the least whole point between two edges, one above and one below, where a row weighs 0."""
    above, below = weighed(row, one), -weighed(row, other)
    point = [below * first + above * second for first, second in zip(one, other)]
    common = 0
    for number in point:
        common = gcd(common, number)
    return [number // common for number in point]
