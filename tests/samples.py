"""Books, and values that are none, which several tests share."""

import itertools

SWAP = ("", "ab", "ba", "")
FULL = ("x", "abc", "zyx", "q")
SHORT = ("", "a", "", "")

BOOKS = [
    (),
    (SHORT,),
    (SWAP,),
    (FULL,),
    (("a", "b", "", ""),),
    (("", "b", "", "a"),),
    (("", "aa", "b", ""), ("b", "a", "", "")),
    (SWAP, SWAP, SWAP),
    (SHORT, FULL, SWAP, SHORT),
    (FULL, FULL, FULL, FULL, FULL),
    (("z", "y", "x", "w"), ("", "v", "u", ""), SHORT, SWAP, ("", "m", "nop", "")),
]


def deep(shape, levels):
    """A value nested so many levels deep."""
    value = None
    for _ in range(levels):
        value = {"a": value} if shape is dict else shape([value])
    return value


# Values of every kind that document point [2] lets stand for "any value".
THINGS = [
    None,
    True,
    False,
    0,
    1,
    -1,
    10**100 - 1,
    -(10**100) + 1,
    "",
    "a",
    "abcd",
    "/a>b/",
    "a" * 2000,
    "\t\n",
    [],
    [""],
    {},
    {"a": "b"},
    {"": "", "ab": "", "ba": "", "b": ""},
    (),
    (None,),
    ("", "a", ""),
    deep(tuple, 50),
    deep(list, 50),
    deep(dict, 50),
    ("a",) * 9999,
    ["a"] * 9999,
    [("", "a", "", "")],
    (["", "a", "", ""],),
]

# Fixes that are wrong in the length of the tuple or in one of its words alone.
WRONG_FIXES = [
    (),
    ("",),
    ("", "a", ""),
    ("", "a", "", "", ""),
    ["", "a", "", ""],
    "abcd",
    ("xx", "a", "", ""),
    ("", "a", "", "xx"),
    ("", "", "", ""),
    ("a", "", "b", "c"),
    ("", "abcd", "", ""),
    ("", "a", "abcd", ""),
    ("A", "a", "", ""),
    ("", "A", "", ""),
    ("", "a", "A", ""),
    ("", "a", "", "A"),
    (" ", "a", "", ""),
    ("", "a b", "", ""),
    ("", " ", "", ""),
    ("", "a", " ", ""),
    ("", "a", "b ", ""),
    ("", "a", "", " "),
    ("", "a1", "", ""),
    ("0", "a", "", ""),
    ("", "a", "7", ""),
    ("", "a", "", "9"),
    ("", "a\n", "", ""),
    ("", "\t", "", ""),
    ("-", "a", "", ""),
    ("", "a", "_", ""),
    ("", "`", "", ""),
    ("", "{", "", ""),
]

# What may stand in the place of a word without being one, wherever the word stands.
NO_WORDS = [None, True, False, 0, 1, 10**99, [], ["a"], (), ("a",), {}, {"a": "b"}]

# What may stand in the place of an integer without being one.
NO_NUMBERS = [None, True, False, "", "0", "1", [], [1], (), (1,), {}, {1: 1}, [0, [1]], "a" * 2000]


def wrong_numbers(least, most):
    """Values that are no integers from least to most."""
    return NO_NUMBERS + [least - 1, most + 1, least - 10, most + 1000, 10**100 - 1, -(10**100) + 1]


def wrong_texts():
    """Values that are no texts of letters."""
    things = [thing for thing in THINGS if thing not in ("", "a", "abcd")]
    return things + NO_WORDS + ["a" * 201, "A", "aB", "a b", " ", "a1", "a\n", "\ta", "-", "a{", "`"]


def wrong_letters():
    """Values that are no ascending strings of 1 to 26 letters."""
    things = [thing for thing in THINGS if thing not in ("a", "abcd")]
    more = ["ba", "aa", "aab", "abca", "abb", "zy", "A", "aB", "a b", "a1", "ab\n", "-", "a{", "`a"]
    alphabet = "abcdefghijklmnopqrstuvwxyz"
    return things + NO_WORDS[:-2] + more + [alphabet + "z", alphabet + "a", "a" + alphabet, alphabet + "{", "a" * 26]


def wide_book(signs, looked_at):
    """A book with so many symbols whose fixes look at so many letters each."""
    letters = itertools.cycle("abcdefghijklmnopqrstuvwxyz"[:signs - 1])
    old = min(looked_at, 3)
    lengths = (int(looked_at == 5), old, 3, int(looked_at > 3))
    fixes = [["".join(itertools.islice(letters, length)) for length in lengths] for _ in range(5)]
    return tuple([tuple(fix) for fix in fixes])


def wrong_books():
    """Values that are no books."""
    wrong = [thing for thing in THINGS if thing != ()]
    wrong += [SHORT, [SHORT], list(BOOKS[6]), {SHORT: SHORT}, (SHORT,) * 6, (SWAP, FULL) * 3]
    for fix in WRONG_FIXES + [thing for thing in THINGS]:
        wrong += [(fix,), (SWAP, fix), (fix, SWAP), (SWAP, SWAP, fix, FULL, FULL)]
    for place in range(4):
        for word in NO_WORDS:
            fix = SWAP[:place] + (word,) + SWAP[place + 1:]
            wrong += [(fix,), (SHORT, SHORT, SHORT, SHORT, fix)]
    return wrong
