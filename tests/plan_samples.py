"""Plans that several test files share."""

from deltamill.bags import Bag
from deltamill.errors import LoopRule
from deltamill.plans import width_of
from deltamill.terms import col, num

A, B, C, X = [("table", name) for name in "abcx"]

# Plans of every kind of node, with tables of two columns.
EVERY_KIND = (
    A,
    ("choose", A, ()),
    ("choose", A, ((col(0), "=", col(1)), ((3, ((0, 2), (1, -1))), "!=", num(-5)), (num(0), "<", num(1)),
                   (col(1), "<=", num(10 ** 39)))),
    ("map", A, ()),
    ("map", A, (col(1), num(0), (4, ((0, -2), (1, 10 ** 39))))),
    ("join", A, B, ()),
    ("join", A, B, ((1, 0), (0, 0), (1, 0))),
    ("plus", A, B),
    ("less", A, B),
    ("distinct", A),
    ("without", A, B, ()),
    ("without", A, B, ((0, 1),)),
    ("group", A, (), ("count",)),
    ("group", A, (1, 1, 0), ("sum", 0)),
    ("group", A, (0,), ("least", 1)),
    ("group", A, (0,), ("greatest", 1)),
    ("top", A, (), 1),
    ("top", A, (0, 0), 10 ** 39),
    ("loop", "x", A, ("map", ("join", X, B, ((1, 0),)), (col(0), col(3)))),
    ("loop", "x", A, ("loop", "y'", ("plus", X, B), ("without", ("table", "y'"), B, ()))),
)

KINDS = ("table", "table", "choose", "map", "join", "plus", "less", "distinct", "without", "group", "top", "loop")


def some_plan(chance, depth):
    """A plan in which every node has one of the forms, though its widths may not fit."""
    kind = chance.choice(KINDS) if depth > 1 else "table"
    if kind == "table":
        return ("table", chance.choice("abcxy"))
    one, two = some_plan(chance, depth - 1), some_plan(chance, depth - 1)
    return {
        "choose": ("choose", one, ((col(0), "=", num(1)),)),
        "map": ("map", one, (col(0),)),
        "join": ("join", one, two, ((0, 0),)),
        "plus": ("plus", one, two),
        "less": ("less", one, two),
        "distinct": ("distinct", one),
        "without": ("without", one, two, ()),
        "group": ("group", one, (0,), ("count",)),
        "top": ("top", one, (), 3),
        "loop": ("loop", chance.choice("xy"), one, two),
    }[kind]

WIDTHS = {"a": 2, "b": 2, "c": 3, "d": 1, "e": 0}
LOOPS = ("x", "y'", "z", "join'")


def fitting_term(chance, width):
    """A term over a row of the width."""
    shape = chance.randrange(3)
    if shape == 0 or width == 0:
        return num(chance.randint(-1, 2))
    if shape == 1:
        return col(chance.randrange(width))
    columns = sorted(chance.sample(range(width), chance.randint(1, width)))
    return (chance.randint(-1, 1), tuple((column, chance.choice((-2, -1, 1, 1, 2))) for column in columns))


def fitting_tests(chance, width):
    return tuple((fitting_term(chance, width), chance.choice(("=", "!=", "<", "<=")), fitting_term(chance, width))
                 for _ in range(chance.choice((0, 1, 1, 2))))


def fitting_pairs(chance, left, right):
    many = chance.choice((0, 1, 1, 2)) if left and right else 0
    return tuple((chance.randrange(left), chance.randrange(right)) for _ in range(many))


def as_wide(chance, plan, has, width):
    """The plan, mapped to another width by plain terms if needed."""
    if has == width:
        return plan
    return ("map", plan, tuple(col(chance.randrange(has)) if has else num(1) for _ in range(width)))


def fitting_loop(chance, depth, widths, kinds, taken):
    name = LOOPS[len(taken)]
    start, width = fitting_plan(chance, depth - 1, widths, kinds, taken + (name,))
    if width > 2:
        start, width = as_wide(chance, start, width, 2), 2
    own = dict(widths, **{name: width})
    for _ in range(20):
        step, has = fitting_plan(chance, depth - 1, own, kinds, taken + (name,))
        plan = ("loop", name, start, as_wide(chance, step, has, width))
        try:
            width_of(plan, widths)
        except LoopRule:
            continue
        return plan, width
    return ("loop", name, start, ("table", name)), width


def fitting_plan(chance, depth, widths=WIDTHS, kinds=KINDS, taken=()):
    """A pair of a plan that `width_of` accepts for the widths and its width. `taken` has the names of loops around."""
    kind = chance.choice(kinds) if depth > 1 else "table"
    if kind == "loop" and len(taken) == len(LOOPS):
        kind = "distinct"
    if kind == "table":
        name = chance.choice(sorted(widths) + [name for name in taken if name in widths] * 3)
        return ("table", name), widths[name]
    if kind == "loop":
        return fitting_loop(chance, depth, widths, kinds, taken)
    one, width = fitting_plan(chance, depth - 1, widths, kinds, taken)
    if kind in ("join", "without", "plus", "less"):
        two, other = fitting_plan(chance, depth - 1, widths, kinds, taken)
        if kind in ("plus", "less"):
            return (kind, one, as_wide(chance, two, other, width)), width
        if kind == "join" and width + other > 6:
            one, width = as_wide(chance, one, width, 1), 1
        pairs = fitting_pairs(chance, width, other)
        return (kind, one, two, pairs), width + (other if kind == "join" else 0)
    keys = tuple(chance.randrange(width) for _ in range(chance.randint(0, 2))) if width else ()
    if kind == "choose":
        return ("choose", one, fitting_tests(chance, width)), width
    if kind == "map":
        if chance.random() < 0.2:
            return ("map", one, tuple(col(column) for column in range(width))), width
        terms = tuple(fitting_term(chance, width) for _ in range(chance.randint(0, 3)))
        return ("map", one, terms), len(terms)
    if kind == "group":
        word = chance.choice(("count", "sum", "least", "greatest")) if width else "count"
        sort = (word,) if word == "count" else (word, chance.randrange(width))
        return ("group", one, keys, sort), len(keys) + 1
    if kind == "top":
        return ("top", one, keys, chance.choice((1, 2, 3, 10 ** 39))), width
    return ("distinct", one), width


def some_bag(chance, width, many=6, counts=(-2, -1, 1, 1, 1, 2, 3)):
    return Bag([(tuple(chance.randrange(3) for _ in range(width)), chance.choice(counts))
                for _ in range(chance.randint(0, many))])


def some_tables(chance, widths=WIDTHS, **how):
    return {name: some_bag(chance, width, **how) for name, width in widths.items()}


def growing_step(chance, depth, own):
    """A plan of two columns that follows pairs of own tables along pairs of the tables a and b."""
    table = ("table", chance.choice("ab"))
    kind = chance.choice(("own", "follow", "follow", "turn", "turn", "plus", "plus", "without", "choose", "loop",
                          "table"))
    if depth <= 0 or kind == "own":
        return ("table", chance.choice(own))
    if kind == "table":
        return chance.choice((table, ("less", ("table", "a"), ("table", "b")), ("top", table, (0,), 1)))
    one = growing_step(chance, depth - 1, own)
    if kind == "follow":
        other = chance.choice((table, table, one, ("less", ("table", "a"), ("table", "b"))))
        return ("map", ("join", one, other, ((1, 0),)), (col(0), col(3)))
    if kind == "turn":
        return ("map", one, (col(1), chance.choice((col(0), col(0), num(1)))))
    if kind == "plus":
        return ("plus", one, growing_step(chance, depth - 1, own))
    if kind == "without":
        return ("without", one, table, ((0, chance.randrange(2)),))
    if kind == "choose":
        return ("choose", one, fitting_tests(chance, 2))
    return growing_loop(chance, depth - 1, own) if len(own) < 2 else ("distinct", one)


def growing_loop(chance, depth=3, own=()):
    """A loop that often takes several rounds."""
    name = LOOPS[len(own)]
    start = ("table", chance.choice(own or "a"))
    if chance.random() < 0.3:
        start = ("less", start, ("table", "b")) if not own else ("plus", start, ("table", "b"))
    return ("loop", name, start, growing_step(chance, depth, own + (name,)))
