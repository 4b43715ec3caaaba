"""How far behind a change the findings that a round takes have to be looked for again.

Two rounds over texts with the same rest are followed from place to place of the rest. A node is a
tuple (one, other, window): what either round has in mind of what lies ahead of a place, and the
letters from there on that both have to see besides the next one. What a round has in mind is a
tuple (near, skip): the letter right ahead, if it is the ahead of a fix, and how many letters from
the place on belong to an old word that was taken."""

from restingfixes.books import check_book, symbols
from restingfixes.bounds import check_number, check_size, looked_at
from restingfixes.tables import NONE, as_ahead, looked_for_from

MOST_STATES = 600
MOST_PLACES = 20
# What a round has in mind at the beginning of a text.
NOTHING = ("", 0)
# The sign that stands for all places behind the last letter of a text.
END = "$"


def reach(book):
    """Return the least number of a place from which on all findings are the same, None if there is none."""
    check_book(book)
    check_reach(book)
    row = list(first_nodes(book))
    graph = graph_from(book, row)
    if endless_nodes(graph):
        return None
    least = 0
    place = 0
    while row:
        if any([move[1] for node in row for move in graph[node]]):
            least = place + 1
        row = list(nodes_behind(graph, row))
        place += 1
    return least


def far(book, many):
    """Return texts (one, other, rest) with unlike findings at place many or later, None if there are none."""
    check_book(book)
    check_number(many, 0, MOST_PLACES)
    check_reach(book)
    begins = first_nodes(book)
    graph = graph_from(book, begins)
    row = {node: begins[node] + ("",) for node in begins}
    for _ in range(many):
        row = texts_behind(graph, row)
    seen = {}
    while row:
        told = unlike_texts(graph, row)
        if told is not None:
            return told
        for node in row:
            seen[node] = True
        behind = texts_behind(graph, row)
        row = {node: behind[node] for node in behind if node not in seen}
    return None


def apart(book):
    """Return texts (one, other, rest, turn) with unlike findings in each turn, None if reach has a number."""
    check_book(book)
    check_reach(book)
    begins = first_nodes(book)
    graph = graph_from(book, begins)
    endless = endless_nodes(graph)
    if not endless:
        return None
    node, turn = ring_among(graph, endless)
    row = {begin: begins[begin] + ("",) for begin in begins}
    while node not in row:
        row = texts_behind(graph, row)
    one, other, rest = row[node]
    # A turn as long as what a round has to see, so that no turn but the last one sees the end.
    return (one, other, rest, turn * width(book))


def unlike_texts(graph, row):
    """Return texts (one, other, rest) with unlike findings at the place of a row of nodes, or None."""
    for node in row:
        for word, differs, _ in graph[node]:
            if differs:
                one, other, rest = row[node]
                return (one, other, rest + word.rstrip(END))
    return None


def check_reach(book):
    """Raise TooMany if the book is too large."""
    check_size([book], looked_at([book]), MOST_STATES)


def width(book):
    """Return how many letters from a place on a round has to see."""
    return max([len(looked_for_from(fix)) for fix in book], default=1)


def signs_behind(window, signs):
    """Return the signs that may stand behind a window."""
    return END if window.endswith(END) else signs + END


def windows(book, signs):
    """Return all windows."""
    found = [""]
    for _ in range(width(book) - 1):
        found = [window + sign for window in found for sign in signs_behind(window, signs)]
    return found


def go_on(book, mind, word):
    """Return the number of the fix that a round takes at the first place of word, NONE if it takes
    none, and what it has in mind behind that place."""
    near, skip = mind
    ahead = as_ahead(book, word[0])
    if skip > 0:
        return NONE, (ahead, skip - 1)
    for number, fix in enumerate(book):
        if fix[0] in ("", near) and word.startswith(looked_for_from(fix)):
            return number, (ahead, len(fix[1]) - 1)
    return NONE, (ahead, 0)


def first_nodes(book):
    """Return a dict of nodes at the beginning of a rest, each with texts one and other.

    It is enough to put one letter ahead of a rest, and none. If findings of one + rest and other +
    rest are unlike, then those of one of the two and of rest alone are; and if one loses letter after
    letter from its beginning until none is left, then some letter makes a difference, at a place
    that lies no less far behind that letter than behind one."""
    signs = symbols([book])
    nodes = {}
    for window in windows(book, signs):
        for letter in signs:
            _, mind = go_on(book, NOTHING, letter + window)
            if mind != NOTHING:
                nodes[(mind, NOTHING, window)] = (letter, "")
    return nodes


def moves(book, signs, node):
    """Return tuples (word, differs, node) for all signs behind the window: the window with the sign,
    whether the findings at the place of the node are unlike, and the next node, None if both
    rounds have the same in mind there, as then they take the same ever after."""
    one, other, window = node
    found = []
    for sign in signs_behind(window, signs):
        word = window + sign
        if word[0] != END:
            first, one_behind = go_on(book, one, word)
            second, other_behind = go_on(book, other, word)
            to = None if one_behind == other_behind else (one_behind, other_behind, word[1:])
            found.append((word, first != second, to))
    return found


def graph_from(book, begins):
    """Return a dict of the moves of all nodes to which some nodes lead."""
    signs = symbols([book])
    graph = {}
    row = list(begins)
    while row:
        for node in row:
            graph[node] = moves(book, signs, node)
        row = [node for node in nodes_behind(graph, row) if node not in graph]
    return graph


def nodes_behind(graph, row):
    """Return a dict, as a set, of the nodes to which the nodes of a row lead at once."""
    return {move[2]: True for node in row for move in graph[node] if move[2] is not None}


def texts_behind(graph, row):
    """Return the nodes to which those of a row lead at once, with their texts one, other and rest."""
    behind = {}
    for node in row:
        one, other, rest = row[node]
        for word, _, to in graph[node]:
            if to is not None:
                behind[to] = (one, other, rest + word[0])
    return behind


def endless_nodes(graph):
    """Return a dict, as a set, of the nodes from which a way goes on without end.

    On such a way the findings differ again and again: where one round goes on with an old word and
    the other one does not, that one takes a finding, or both have the same in mind soon."""
    many = {node: 0 for node in graph}
    ahead = {node: [] for node in graph}
    for node in graph:
        for move in graph[node]:
            if move[2] is not None:
                many[node] += 1
                ahead[move[2]].append(node)
    ended = [node for node in graph if many[node] == 0]
    while ended:
        last = ended.pop()
        for node in ahead[last]:
            many[node] -= 1
            if many[node] == 0:
                ended.append(node)
    return {node: True for node in graph if many[node] > 0}


def ring_among(graph, endless):
    """Return a node and the letters by which a way leads from it back to it."""
    node = list(endless)[0]
    places = {}
    letters = ""
    while node not in places:
        places[node] = len(letters)
        word, _, node = [move for move in graph[node] if move[2] in endless][0]
        letters += word[0]
    return node, letters[places[node]:]
