"""Fixes told back: all those that make told texts of told texts."""

from restingfixes.books import is_word
from restingfixes.errors import InvalidPairs
from restingfixes.rounds import mended, round_findings

MOST_PAIRS = 8
MOST_LETTERS = 20
LONGEST_WORD = 3


def told_back(pairs):
    """Return the ascending list of all fixes that make each after of its text, and find something."""
    check_pairs(pairs)
    fixes = [fix for text, after in pairs for fix in fixes_between(text, after)]
    return [fix for fix in sorted(set(fixes)) if makes_all(fix, pairs)]


def check_pairs(pairs):
    """Raise InvalidPairs unless the value is a list of pairs of words."""
    if not isinstance(pairs, list) or not 1 <= len(pairs) <= MOST_PAIRS:
        raise InvalidPairs("a list of 1 to 8 pairs is asked for")
    if not all([is_pair(pair) for pair in pairs]):
        raise InvalidPairs("a pair is a tuple of two words of at most 20 letters")


def is_pair(value):
    """Tell whether a value is a tuple of two words."""
    if not isinstance(value, tuple) or len(value) != 2:
        return False
    return is_word(value[0], 0, MOST_LETTERS) and is_word(value[1], 0, MOST_LETTERS)


def fixes_between(text, after):
    """Return all fixes that find something in a text and that may make after of it.

    What stands ahead of the first finding that is taken stays as it is, so a new word stands in
    after at the same place."""
    found = []
    for ahead, old, behind in sorted(set(looked_for_in(text))):
        at, _ = round_findings(((ahead, old, "", behind),), text)[0]
        news = [after[at:at + length] for length in range(LONGEST_WORD + 1)]
        found.extend([(ahead, old, new, behind) for new in news])
    return found


def looked_for_in(text):
    """Return tuples (ahead, old, behind) of words that stand beside one another in a text."""
    found = []
    for at in range(len(text)):
        for end in range(at + 1, min(at + LONGEST_WORD, len(text)) + 1):
            for ahead in ("", text[max(at - 1, 0):at]):
                found.extend([(ahead, text[at:end], behind) for behind in ("", text[end:end + 1])])
    return found


def makes_all(fix, pairs):
    """Tell whether a fix alone makes each after of its text."""
    for text, after in pairs:
        if mended((fix,), text) != after:
            return False
    return True
