"""Texts at rest: how many there are, which one has a number, and the longest one."""

from restingfixes.books import ALPHABET, MOST_LETTERS, check_book, check_text
from restingfixes.bounds import check_number
from restingfixes.errors import InvalidLetters
from restingfixes.searching import FOUND, search_table


def count_clean(book, letters, length):
    """Return how many texts of so many of the letters are at rest."""
    check_book(book)
    check_letters(letters)
    check_number(length, 0, MOST_LETTERS)
    return clean_counts(search_table(book, letters), length)[length][0]


def clean_at(book, letters, length, number):
    """Return the text at rest with this number among those of so many of the letters."""
    check_book(book)
    check_letters(letters)
    check_number(length, 0, MOST_LETTERS)
    table = search_table(book, letters)
    counts = clean_counts(table, length)
    check_number(number, 0, counts[length][0] - 1)
    text = ""
    state = 0
    ahead = 0
    for left in reversed(range(length)):
        letter, passed = letter_at(table[state], counts[left], number - ahead)
        text += letter
        state = table[state][letter]
        ahead = ahead + passed
    return text


def number_of(book, letters, text):
    """Return the number of a text among those at rest of as many letters, None if it is not."""
    check_book(book)
    check_letters(letters)
    check_text(text)
    if any([letter not in letters for letter in text]):
        raise InvalidLetters("a text of these letters is asked for")
    table = search_table(book, letters)
    counts = clean_counts(table, len(text))
    state = 0
    ahead = 0
    for at, letter in enumerate(text):
        lesser = [other for other in letters if other < letter]
        ahead = ahead + ways_on(table[state], counts[len(text) - at - 1], lesser)
        state = table[state][letter]
        if state == FOUND:
            return None
    return ahead


def longest_clean(book, letters):
    """Return the greatest length of a word at rest of the letters, None if there is none."""
    check_book(book)
    check_letters(letters)
    table = search_table(book, letters)
    states = [0]
    # A word with as many letters as there are states comes to one of them twice, and so has longer ones.
    for length in range(len(table)):
        steps = [table[state][letter] for state in states for letter in letters]
        states = sorted(set([state for state in steps if state != FOUND]))
        if not states:
            return length
    return None


def check_letters(letters):
    """Raise InvalidLetters unless the value is an ascending string of letters."""
    if not isinstance(letters, str) or not 1 <= len(letters) <= len(ALPHABET):
        raise InvalidLetters("a string of 1 to 26 letters is asked for")
    if letters != "".join([letter for letter in ALPHABET if letter in letters]):
        raise InvalidLetters("an ascending string of letters is asked for")


def clean_counts(table, length):
    """Return for 0, 1, .. up to so many letters how many ways go on from each state."""
    counts = [[1] * len(table)]
    for _ in range(length):
        last = counts[-1]
        counts.append([ways_on(row, last, list(row)) for row in table])
    return counts


def ways_on(row, counts, letters):
    """Return how many ways go on with one of the letters, by the counts behind it."""
    return sum([counts[row[letter]] for letter in letters if row[letter] != FOUND])


def letter_at(row, counts, number):
    """Return the next letter of the way with this number, and how many ways lie ahead of that letter's."""
    letters = list(row)
    many = 0
    passed = 0
    while passed + ways_on(row, counts, [letters[many]]) <= number:
        passed = passed + ways_on(row, counts, [letters[many]])
        many += 1
    return letters[many], passed
