"""The text of a plan and of what stands in it."""

from deltamill.forms import subplans


def show_factor(factor):
    """What stands in front of a column: its factor, but only the sign of 1 and -1."""
    if factor == 1:
        return ""
    if factor == -1:
        return "-"
    return str(factor) + "*"


def signed(text):
    """The text of what is added: with a `+` in front unless it has a `-`."""
    return text if text.startswith("-") else "+" + text


def show_term(term):
    """The text of a term."""
    constant, parts = term
    pieces = [show_factor(factor) + "c" + str(column) for column, factor in parts]
    if constant != 0 or not pieces:
        pieces.append(str(constant))
    return pieces[0] + "".join([signed(piece) for piece in pieces[1:]])


def show_test(test):
    """The text of a test."""
    left, op, right = test
    return show_term(left) + op + show_term(right)


def show_pairs(pairs):
    """The text of the pairs of a join or a without."""
    return ",".join([f"{left}={right}" for left, right in pairs])


def show_keys(keys):
    """The text of the keys of a group or a top."""
    return ",".join([str(column) for column in keys])


def show_filling(node):
    """What stands in square brackets in the text of the node, or None if it has none."""
    kind = node[0]
    if kind == "choose":
        return "&".join([show_test(test) for test in node[2]])
    if kind == "map":
        return ",".join([show_term(term) for term in node[2]])
    if kind in ("join", "without"):
        return show_pairs(node[3])
    if kind == "group":
        return show_keys(node[2]) + ";" + ":".join([str(word) for word in node[3]])
    if kind == "top":
        return show_keys(node[2]) + ";" + str(node[3])
    return node[1] if kind == "loop" else None


def text_of(node):
    """The text of a plan."""
    if node[0] == "table":
        return node[1]
    filling = show_filling(node)
    front = node[0] if filling is None else f"{node[0]}[{filling}]"
    return front + "(" + ",".join([text_of(sub) for sub in subplans(node)]) + ")"
