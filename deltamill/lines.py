"""The lines that a desk reads, and how it writes its replies."""

from deltamill.errors import BadLine

DIGITS = "0123456789"
MOST_DIGITS = 40

# How many words a line has that begins with one of these.
SIZES = {"tell": 5, "ask": 3, "undo": 1, "redo": 1}


def read_number(word):
    """The number that is written so."""
    digits = word[1:] if word.startswith("-") else word
    if not 1 <= len(digits) <= MOST_DIGITS or not all([digit in DIGITS for digit in digits]):
        raise BadLine()
    number = int(word)
    if str(number) != word:
        raise BadLine()
    return number


def read_row(word):
    """The row or the moment that is written so."""
    if not word.startswith("(") or not word.endswith(")"):
        raise BadLine()
    inside = word[1:-1]
    return tuple([read_number(piece) for piece in inside.split(",")]) if inside else ()


def read_line(line):
    """The words of a line, of which those that are moments, rows and counts are read.

    A close or a forget is a triple of its first word, the list of moments and the list of names.
    """
    words = line.split(" ")
    if "" in words:
        raise BadLine()
    first = words[0]
    if first in ("close", "forget"):
        return read_fronts(words)
    if first not in SIZES or len(words) != SIZES[first]:
        raise BadLine()
    if first == "tell":
        return (first, words[1], read_row(words[2]), read_number(words[3]), read_row(words[4]))
    if first == "ask":
        return (first, words[1], read_row(words[2]))
    return (first,)


def read_fronts(words):
    """The triple of a close or a forget."""
    end = words.index("for") if "for" in words else len(words)
    names = words[end + 1:]
    if end < len(words) and not names:
        raise BadLine()
    return (words[0], [read_row(word) for word in words[1:end]], names)


def show_row(row):
    """The text of a row or a moment."""
    return "(" + ",".join([str(number) for number in row]) + ")"


def show_changes(changes):
    """The reply that lists changes of outputs."""
    texts = [f"{name} {show_row(row)} {count} {show_row(moment)}" for name, moment, row, count in changes]
    return "; ".join(texts) if texts else "nothing"


def show_bag(bag):
    """The reply that lists the rows of a bag."""
    texts = [f"{show_row(row)}*{count}" for row, count in bag.pairs()]
    return " ".join(texts) if texts else "empty"
