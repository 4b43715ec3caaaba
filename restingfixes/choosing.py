"""Whether it matters which of overlapping findings goes first."""

from restingfixes.books import check_book, symbols
from restingfixes.bounds import check_size, looked_at
from restingfixes.tables import as_ahead, round_table, tell_all, without_common

MOST_STATES = 600


def two_ends(book):
    """Return a shortest text that has at least two ends, None if there is none."""
    check_book(book)
    check_size([book], looked_at([book]), MOST_STATES)
    return first_two_ends(book)


def first_two_ends(book):
    """Return a shortest text of symbols of which a choice makes another text than a round, or None."""
    signs = symbols([book])
    table = round_table(book, signs)
    choice_steps, ends = choice_table(book, signs)
    best = None
    seen = {(0, 0): True}
    # A node is a text, the states behind it of the round and of a choice, and what the round has
    # told beyond the choice, and the contrary.
    row = [("", 0, 0, "", "")]
    while row and (best is None or len(row[0][0]) + 1 < len(best)):
        nodes = [node for before in row for node in nodes_behind(table, choice_steps, ends, before)]
        row = []
        for node in nodes:
            ending = ends[node[2]]
            if is_parted(table, node, ending):
                best = shorter(best, node[0] + ending[0])
            elif (node[1], node[2]) not in seen:
                seen[(node[1], node[2])] = True
                row.append(node)
    return best


def nodes_behind(table, choice_steps, ends, node):
    """Return the nodes with one more letter from which the choice may come to an end."""
    text, state, choice, more, rest = node
    found = []
    for sign, told, to in choice_steps[choice]:
        if ends[to] is not None:
            behind, answer = table[0][state][sign]
            found.append((text + sign, behind, to) + without_common(more + answer, rest + told))
    return found


def is_parted(table, node, ending):
    """Tell whether round and choice make unlike texts if the text goes on with an ending of the choice.

    If they do not, the ending settles what either has told beyond the other one, so that one text
    stands for all that come to the same states."""
    word, told = ending
    return node[3] + tell_all(table, node[1], word) != node[4] + told


def shorter(best, text):
    """Return the shorter one of two texts, of which the first one may be None."""
    return text if best is None or len(text) < len(best) else best


def choice_table(book, signs):
    """Return the steps of all choices, read letter by letter, and their endings.

    The steps are a list with a list for each state, 0 the beginning, of tuples (sign, told, state);
    the endings a list with a tuple (word, told) for each state: a shortest word with which the text
    of a choice may go on and end, and what is told then; None if there is none."""
    states = [("", "", 0, ())]
    numbers = {states[0]: 0}
    steps = []
    while len(steps) < len(states):
        row = []
        found = choice_steps_from(book, signs, states[len(steps)])
        for sign, told, state in found:
            if state not in numbers:
                numbers[state] = len(states)
                states.append(state)
            row.append((sign, told, numbers[state]))
        steps.append(row)
    # A text may end where no letter is wanted any more.
    return steps, endings(steps, [("", "") if state[1] == "" else None for state in states])


def choice_steps_from(book, signs, state):
    """Return all tuples (sign, told, state) by which a choice goes on.

    A state is the letter read last, if it is the ahead of a fix; the letters that have to follow,
    as a finding was taken that looks at them; how many of these the finding takes; and the tuple of
    what was read of findings that could be taken besides, which must not come whole."""
    row = []
    for sign in signs:
        if state[1][:1] in ("", sign):
            row.extend(steps_by_letter(book, sign, state))
    return row


def steps_by_letter(book, sign, state):
    """Return the steps by which a choice goes on with a letter that may follow."""
    near, wanted, many, begun = state
    mark = as_ahead(book, sign)
    if many > 0:
        return [(sign, "", (mark, wanted[1:], many - 1, untaken(book, begun, sign, False)))]
    steps = []
    left = untaken(book, begun, sign, True)
    if left is not None:
        steps.append((sign, sign, (mark, "", 0, left)))
    covered = untaken(book, begun, sign, False)
    if covered is not None:
        for ahead, old, new, behind in book:
            if ahead in ("", near) and old[0] == sign:
                steps.append((sign, new, (mark, old[1:] + behind, len(old) - 1, covered)))
    return steps


def untaken(book, begun, sign, is_left):
    """Return what was read of findings that could be taken besides behind one more letter.

    It is a tuple of tuples (number of the fix, number of letters); None if one comes whole. A letter
    of an old word has to be left by all findings that are taken, so none comes whole within one
    that is taken."""
    longer = []
    for number, length in begun + tuple([(number, 0) for number in range(len(book))]):
        ahead, old, _, behind = book[number]
        word = ahead + old + behind
        in_old = len(ahead) <= length < len(ahead + old)
        if word[length] == sign and (is_left or not in_old):
            if length + 1 == len(word):
                return None
            longer.append((number, length + 1))
    return tuple(sorted(longer))


def endings(steps, ends):
    """Return the endings of the states, given those of the states at which a text may end."""
    before = []
    while before != ends:
        before = ends
        ends = [before[state] or first_ending(steps[state], before) for state in range(len(steps))]
    return ends


def first_ending(row, ends):
    """Return an ending that begins with one of some steps, None if there is none."""
    for sign, told, to in row:
        if ends[to] is not None:
            word, more = ends[to]
            return (sign + word, told + more)
    return None
