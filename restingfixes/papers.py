"""Papers: a book and a text, written in lines of words."""

from restingfixes.books import MOST_FIXES, MOST_LETTERS, is_fix, is_word
from restingfixes.errors import InvalidLine
from restingfixes.rounds import check_book_and_text

# What stands in the place of a word without letters.
STROKE = "-"
# The first word of each kind of line, and how many words such a line has.
LINES = (("fix", 5), ("text", 2))


def paper_text(book, text):
    """Return the text of a paper with a book and a text."""
    check_book_and_text(book, text)
    lines = [line_of("fix", list(fix)) for fix in book] + [line_of("text", [text])]
    return "".join(lines)


def line_of(kind, words):
    """Return a line of this kind with some words."""
    return " ".join([kind] + [word or STROKE for word in words]) + "\n"


def read_paper(text):
    """Return the book and the text of a paper; raise InvalidLine for its first wrong line."""
    if not isinstance(text, str):
        raise InvalidLine(0, "string")
    fixes = []
    told = None
    lines = text.split("\n")
    for number, line in enumerate(lines):
        words = words_of(line)
        if words:
            reason = why_wrong(words, len(fixes), told is not None)
            if reason is not None:
                raise InvalidLine(number, reason)
            if words[0] == "fix":
                fixes.append(fix_of(words))
            else:
                told = word_of(words[1])
    if told is None:
        raise InvalidLine(len(lines), "end")
    return tuple(fixes), told


def words_of(line):
    """Return the words of a line."""
    return [word for word in line.split(" ") if word != ""]


def fix_of(words):
    """Return what the words of a `fix` line stand for."""
    return tuple([word_of(word) for word in words[1:]])


def word_of(written):
    """Return what a written word stands for."""
    return "" if written == STROKE else written


def why_wrong(words, many_fixes, is_ended):
    """Return the reason why a line of these words is wrong, None if it is right.

    It stands behind so many `fix` lines, and behind a `text` line if is_ended."""
    if is_ended or (words[0], len(words)) not in LINES:
        return "line"
    if words[0] == "text":
        return None if is_word(word_of(words[1]), 0, MOST_LETTERS) else "text"
    if not is_fix(fix_of(words)):
        return "fix"
    return "many" if many_fixes == MOST_FIXES else None
