"""Tables of rounds: what rounds tell of a text while they read it, letter by letter.

A table is a tuple (steps, ends) over states, 0 the one at the beginning of a text: steps is a list
with a dict for each state, from signs to tuples (state, told), and ends is a list of what is told
behind each state if the text ends there. Each function changes lists and dicts of its own alone."""

from restingfixes.bounds import looked_for

NONE = -1


def piece_table(book, signs):
    """Return the table of one round that tells pieces.

    A piece is a tuple (number, word): what comes in the place of a finding of this fix, or, with
    NONE, a letter that stays."""
    states = [(fixes_behind(book, ""), "")]
    numbers = {states[0]: 0}
    steps = []
    while len(steps) < len(states):
        alive, held = states[len(steps)]
        row = {}
        for sign in signs:
            state, pieces = read_on(book, alive, held + sign)
            if state not in numbers:
                numbers[state] = len(states)
                states.append(state)
            row[sign] = (numbers[state], pieces)
        steps.append(row)
    return steps, [read_out(book, alive, held) for alive, held in states]


def fixes_behind(book, letter):
    """Return the numbers of the fixes that may be found right behind a letter, or "" for none."""
    return tuple([number for number, fix in enumerate(book) if fix[0] in ("", letter)])


def as_ahead(book, letter):
    """Return a letter if it is the ahead of a fix, otherwise "", as all others are alike."""
    return letter if letter in [fix[0] for fix in book] else ""


def read_on(book, alive, held):
    """Return the state behind the letters held from a place on, and the pieces that are told.

    The fixes alive are those that may be found at this place. A state is the fixes alive at the
    place that is not yet told, and the letters that are held from there on."""
    pieces = []
    alive = still_alive(book, alive, held)
    while held and (not alive or is_found(book[alive[0]], held)):
        number = alive[0] if alive else NONE
        piece, many = piece_at(book, number, held)
        pieces.append(piece)
        alive = still_alive(book, fixes_behind(book, held[many - 1]), held[many:])
        held = held[many:]
    return (alive, held), pieces


def read_out(book, alive, held):
    """Return the pieces that are told of the letters held where the text ends."""
    pieces = []
    while held:
        found = [number for number in alive if is_found(book[number], held)]
        piece, many = piece_at(book, found[0] if found else NONE, held)
        pieces.append(piece)
        alive = fixes_behind(book, held[many - 1])
        held = held[many:]
    return pieces


def still_alive(book, alive, held):
    """Return those of the fixes alive that agree with the letters held."""
    kept = []
    for number in alive:
        if is_found(book[number], held):
            # Those behind it in the book are out, whatever letters come.
            return tuple(kept + [number])
        if looked_for_from(book[number]).startswith(held):
            kept.append(number)
    return tuple(kept)


def is_found(fix, held):
    """Tell whether the letters held tell that a fix is found."""
    return held.startswith(looked_for_from(fix))


def looked_for_from(fix):
    """Return the letters that a fix looks at from its place on."""
    return looked_for(fix)[len(fix[0]):]


def piece_at(book, number, held):
    """Return the piece that is told at the beginning of the letters held, and how many it takes."""
    if number == NONE:
        return (NONE, held[0]), 1
    return (number, book[number][2]), len(book[number][1])


def round_table(book, signs):
    """Return the table of one round that tells words."""
    steps, ends = piece_table(book, signs)
    words = [{sign: (row[sign][0], word_of(row[sign][1])) for sign in row} for row in steps]
    return words, [word_of(pieces) for pieces in ends]


def word_of(pieces):
    """Return the letters of some pieces in one word."""
    return "".join([piece[1] for piece in pieces])


def row_table(books, signs):
    """Return the table of one round of each book, one behind the other, that tells words."""
    table = ([{sign: (0, sign) for sign in signs}], [""])
    for book in books:
        table = joined(table, round_table(book, signs), signs)
    return table


def joined(one, other, signs):
    """Return the table of what other makes of what one makes of a text."""
    steps, ends = one
    states = [(0, 0)]
    numbers = {(0, 0): 0}
    both_steps = []
    while len(both_steps) < len(states):
        first, second = states[len(both_steps)]
        row = {}
        for sign in signs:
            to, word = steps[first][sign]
            behind, told = tell_on(other, second, word)
            if (to, behind) not in numbers:
                numbers[(to, behind)] = len(states)
                states.append((to, behind))
            row[sign] = (numbers[(to, behind)], told)
        both_steps.append(row)
    return both_steps, [tell_all(other, second, ends[first]) for first, second in states]


def tell_on(table, state, word):
    """Return the state behind a word, and what is told on the way."""
    told = []
    for sign in word:
        state, more = table[0][state][sign]
        told.append(more)
    return state, "".join(told)


def tell_all(table, state, word):
    """Return what is told of a word with which the text ends."""
    behind, told = tell_on(table, state, word)
    return told + table[1][behind]


def without_common(one, other):
    """Return what two words have behind the letters with which both begin."""
    many = 0
    while many < len(one) and many < len(other) and one[many] == other[many]:
        many += 1
    return one[many:], other[many:]
