"""Tables by which words are looked for along a text, letter by letter."""

from restingfixes.bounds import looked_for

FOUND = -1


def search_table(book, signs):
    """Return a list with a dict for each state, 0 the beginning, from signs to states.

    A text leads to FOUND just if it has a finding of the book."""
    words = [looked_for(fix) for fix in book]
    # A state is what of the text read so far may become one of the words.
    tails = [""]
    table = []
    while len(table) < len(tails):
        row = {}
        for sign in signs:
            tail = tail_behind(words, tails[len(table)] + sign)
            if tail is not None and tail not in tails:
                tails.append(tail)
            row[sign] = FOUND if tail is None else tails.index(tail)
        table.append(row)
    return table


def tail_behind(words, read):
    """Return the longest end of read that begins one of the words, None if one ends there."""
    if any([read.endswith(word) for word in words]):
        return None
    ends = [read[at:] for at in range(len(read) + 1)]
    return max([end for end in ends if begins_word(words, end)], key=len)


def begins_word(words, end):
    """Tell whether an end of a text may become one of the words; the empty one always may."""
    return end == "" or any([word.startswith(end) for word in words])


def search_on(table, state, word):
    """Return the state behind a word; FOUND is never left."""
    for sign in word:
        if state != FOUND:
            state = table[state][sign]
    return state
