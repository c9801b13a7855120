"""Plans that several test files share."""

from deltamill.terms import col, num

A, B, C, X = [("table", name) for name in "abcx"]

# Plans of every kind of node, with tables of two columns.
EVERY_KIND = (
    A,
    ("choose", A, ()),
    ("choose", A, ((col(0), "=", col(1)), ((3, ((0, 2), (1, -1))), "!=", num(-5)), (num(0), "<", num(1)),
                   (col(1), "<=", num(10 ** 39)))),
    ("map", A, ()),
    ("map", A, (col(1), num(0), (4, ((0, -2), (1, 10 ** 39))))),
    ("join", A, B, ()),
    ("join", A, B, ((1, 0), (0, 0), (1, 0))),
    ("plus", A, B),
    ("less", A, B),
    ("distinct", A),
    ("without", A, B, ()),
    ("without", A, B, ((0, 1),)),
    ("group", A, (), ("count",)),
    ("group", A, (1, 1, 0), ("sum", 0)),
    ("group", A, (0,), ("least", 1)),
    ("group", A, (0,), ("greatest", 1)),
    ("top", A, (), 1),
    ("top", A, (0, 0), 10 ** 39),
    ("loop", "x", A, ("map", ("join", X, B, ((1, 0),)), (col(0), col(3)))),
    ("loop", "x", A, ("loop", "y'", ("plus", X, B), ("without", ("table", "y'"), B, ()))),
)

KINDS = ("table", "table", "choose", "map", "join", "plus", "less", "distinct", "without", "group", "top", "loop")


def some_plan(chance, depth):
    """A plan in which every node has one of the forms, though its widths may not fit."""
    kind = chance.choice(KINDS) if depth > 1 else "table"
    if kind == "table":
        return ("table", chance.choice("abcxy"))
    one, two = some_plan(chance, depth - 1), some_plan(chance, depth - 1)
    return {
        "choose": ("choose", one, ((col(0), "=", num(1)),)),
        "map": ("map", one, (col(0),)),
        "join": ("join", one, two, ((0, 0),)),
        "plus": ("plus", one, two),
        "less": ("less", one, two),
        "distinct": ("distinct", one),
        "without": ("without", one, two, ()),
        "group": ("group", one, (0,), ("count",)),
        "top": ("top", one, (), 3),
        "loop": ("loop", chance.choice("xy"), one, two),
    }[kind]
