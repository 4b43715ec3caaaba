"""How many texts are at rest behind some rounds."""

from restingfixes.books import MOST_LETTERS, check_book, letters_of, symbols
from restingfixes.bounds import check_number
from restingfixes.clean import check_letters
from restingfixes.resting import MOST_ROUNDS, check_rounds
from restingfixes.searching import FOUND, search_on, search_table
from restingfixes.tables import row_table

MOST_STATES = 600


def count_resting(book, letters, length, many):
    """Return how many texts of so many of the letters are at rest behind so many rounds."""
    check_book(book)
    check_letters(letters)
    check_number(length, 0, MOST_LETTERS)
    check_number(many, 0, MOST_ROUNDS)
    check_rounds(book, many, MOST_STATES)
    moves, resting = resting_moves(book, many, alike_letters(book, letters))
    ways = [1] + [0] * (len(moves) - 1)
    for _ in range(length):
        ways = ways_behind(moves, ways)
    return sum([way for way, is_resting in zip(ways, resting) if is_resting])


def alike_letters(book, letters):
    """Return a dict from those symbols of a book that stand for some of the letters to how many
    each stands for."""
    named = letters_of([book])
    many = {letter: 1 for letter in letters if letter in named}
    others = [letter for letter in letters if letter not in named]
    for sign in symbols([book]):
        if others and sign not in named:
            many[sign] = len(others)
    return many


def resting_moves(book, many, alike):
    """Return what may come behind so many rounds while a text is read, over states from 0 on.

    The one list has for each state tuples (state, number of letters that lead there), the other one
    whether the text is at rest behind the rounds if it ends there. A finding that has come never
    goes, so what has one is left out."""
    signs = symbols([book])
    steps, ends = row_table([book] * many, signs)
    search = search_table(book, signs)
    states = [(0, 0)]
    numbers = {(0, 0): 0}
    moves = []
    while len(moves) < len(states):
        state, place = states[len(moves)]
        row = {}
        for sign in alike:
            to, told = steps[state][sign]
            both = (to, search_on(search, place, told))
            if both[1] != FOUND:
                if both not in numbers:
                    numbers[both] = len(states)
                    states.append(both)
                row[numbers[both]] = row.get(numbers[both], 0) + alike[sign]
        moves.append(list(row.items()))
    return moves, [search_on(search, place, ends[state]) != FOUND for state, place in states]


def ways_behind(moves, ways):
    """Return how many ways lead to each state with one letter more."""
    behind = [0] * len(ways)
    for number, way in enumerate(ways):
        if way > 0:
            for to, many in moves[number]:
                behind[to] += way * many
    return behind
