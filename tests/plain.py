"""What the document says, told a second time in the plainest way and by nothing of the program.

All of it goes through all texts, all lots of findings or all pairs of texts, so it is for small
books and short texts alone."""

import itertools
import random


def symbols(*books):
    """Document point [4]: the letters that stand in some books and the least other one."""
    used = {letter for book in books for fix in book for word in fix for letter in word}
    alphabet = "abcdefghijklmnopqrstuvwxyz"
    return "".join(sorted(used | set([letter for letter in alphabet if letter not in used][:1])))


def looked_at(*books):
    """Document point [11]: the most letters that a fix looks at."""
    return max([len(a + o + b) for book in books for a, o, _, b in book], default=1)


def texts(signs, most, least=0):
    """All texts of so many letters, shorter ones first."""
    for length in range(least, most + 1):
        for letters in itertools.product(signs, repeat=length):
            yield "".join(letters)


def stands(fix, text, at):
    ahead, old, _, behind = fix
    end = at + len(old)
    if ahead and (at == 0 or text[at - 1] != ahead):
        return False
    if behind and (end >= len(text) or text[end] != behind):
        return False
    return text[at:end] == old


def findings(book, text):
    return [(at, n) for at in range(len(text)) for n, fix in enumerate(book) if stands(fix, text, at)]


def spot(book, finding):
    """The places of the old word of a finding."""
    at, number = finding
    return set(range(at, at + len(book[number][1])))


def taken(book, text):
    found = findings(book, text)
    told = []
    at = 0
    while at < len(text):
        here = [finding for finding in found if finding[0] == at]
        told += here[:1]
        at += len(book[here[0][1]][1]) if here else 1
    return told


def pieces(book, text, chosen):
    """What comes, as a list of (letter, finding that put it in or None), and the places of what was
    taken out without anything put in, as a list of (how many letters stand ahead, finding)."""
    came = []
    cuts = []
    by_place = {finding[0]: finding for finding in chosen}
    at = 0
    while at < len(text):
        if at in by_place:
            finding = by_place[at]
            new = book[finding[1]][2]
            if new == "":
                cuts.append((len(came), finding))
            came += [(letter, finding) for letter in new]
            at += len(book[finding[1]][1])
        else:
            came.append((text[at], None))
            at += 1
    return came, cuts


def put_in(book, text, chosen):
    return "".join([letter for letter, _ in pieces(book, text, chosen)[0]])


def one_round(book, text):
    return put_in(book, text, taken(book, text))


def behind(book, text, many):
    for _ in range(many):
        text = one_round(book, text)
    return text


def choices(book, text):
    """All lots of findings that do not overlap and leave no other one that does not."""
    found = findings(book, text)
    told = []
    for size in range(len(found) + 1):
        for lot in itertools.combinations(found, size):
            spots = [spot(book, finding) for finding in lot]
            covered = set().union(*spots)
            if sum([len(places) for places in spots]) == len(covered):
                if all([covered & spot(book, other) for other in found if other not in lot]):
                    told.append(list(lot))
    return sorted(told)


def ends(book, text):
    return sorted({put_in(book, text, lot) for lot in choices(book, text)})


def woken(book, text):
    """All tuples (one, other) of fixes of which over this text the one wakes the other one."""
    chosen = taken(book, text)
    came, cuts = pieces(book, text, chosen)
    after = "".join([letter for letter, _ in came])
    told = set()
    for at, other in findings(book, after):
        ahead, old, _, behind_it = book[other]
        looks = range(at - len(ahead), at + len(old) + len(behind_it))
        for finding in chosen:
            puts = [place for place in looks if came[place][1] == finding]
            parts = [place for place in looks if place - 1 in looks and (place, finding) in cuts]
            if puts or parts:
                told.add((finding[1], other))
    return told


def taken_in_rest(book, text, rest):
    """What a round takes of text + rest from the beginning of rest on."""
    return {(at - len(text), n) for at, n in taken(book, text + rest) if at >= len(text)}


def unlike_places(book, one, other, rest):
    unlike = taken_in_rest(book, one, rest) ^ taken_in_rest(book, other, rest)
    return sorted({place for place, _ in unlike})


def small_books(seed, many, alphabet="ab", most=3, longest=3):
    """Books of few letters, drawn by a seed, so that they are the same each time."""
    draw = random.Random(seed)

    def word(least, highest):
        return "".join([draw.choice(alphabet) for _ in range(draw.randint(least, highest))])

    def fix():
        side = draw.choice([0, 0, 1])
        old = word(1, draw.choice([1, 2, 2, longest]))
        return (word(0, side), old, word(0, draw.choice([0, 1, 2, 3])), word(0, 1 - side))

    return [tuple([fix() for _ in range(draw.randint(1, most))]) for _ in range(many)]
