"""The forms of plans and of what stands in them, and the sub-plans of a node."""

from deltamill.checks import is_number
from deltamill.errors import BadPlan

LETTERS = "abcdefghijklmnopqrstuvwxyz"
MOST_LETTERS = 8
MOST_COLUMN = 99
OPS = ("=", "!=", "<", "<=")
SORTS = ("sum", "least", "greatest")
WORDS = ("choose", "map", "join", "plus", "less", "distinct", "without", "group", "top", "loop")

# For each kind of node, how many items it has and which of them are its sub-plans.
SIZES = {"table": 2, "choose": 3, "map": 3, "join": 4, "plus": 3, "less": 3, "distinct": 2,
         "without": 4, "group": 4, "top": 4, "loop": 4}
SUBPLANS = {"table": (), "choose": (1,), "map": (1,), "join": (1, 2), "plus": (1, 2), "less": (1, 2), "distinct": (1,),
            "without": (1, 2), "group": (1,), "top": (1,), "loop": (2, 3)}


def is_name(value):
    """Whether the value is a name of a table or a loop: no word of another node."""
    if not isinstance(value, str) or value in WORDS:
        return False
    stem = value[:-1] if value.endswith("'") else value
    return 1 <= len(stem) <= MOST_LETTERS and all([letter in LETTERS for letter in stem])


def is_tuple_with(value, many):
    """Whether the value is a tuple with so many items."""
    return isinstance(value, tuple) and len(value) == many


def is_tuple_of(value, is_item):
    """Whether the value is a tuple of such items."""
    return isinstance(value, tuple) and all([is_item(item) for item in value])


def is_column(value):
    """Whether the value is a column of a plan."""
    return is_number(value) and 0 <= value <= MOST_COLUMN


def is_part(value):
    """Whether the value is a pair of a column and a factor that is not 0."""
    return is_tuple_with(value, 2) and is_column(value[0]) and is_number(value[1]) and value[1] != 0


def is_term(value):
    """Whether the value is a term: a constant and parts with ascending columns."""
    if not is_tuple_with(value, 2):
        return False
    constant, parts = value
    if not is_number(constant) or not is_tuple_of(parts, is_part):
        return False
    columns = [column for column, _ in parts]
    return columns == sorted(set(columns))


def is_test(value):
    """Whether the value is a test: a term, an op and a term."""
    if not is_tuple_with(value, 3):
        return False
    left, op, right = value
    return is_term(left) and isinstance(op, str) and op in OPS and is_term(right)


def is_pair(value):
    """Whether the value is a pair of columns."""
    return is_tuple_with(value, 2) and is_tuple_of(value, is_column)


def is_sort(value):
    """Whether the value is the sort of a group."""
    if not isinstance(value, tuple) or not value or not isinstance(value[0], str):
        return False
    if value[0] == "count":
        return len(value) == 1
    return value[0] in SORTS and len(value) == 2 and is_column(value[1])


def is_filled_right(node):
    """Whether the items of the node that are not sub-plans are right, for a tuple of the right length."""
    kind = node[0]
    if kind in ("table", "loop"):
        return is_name(node[1])
    if kind == "choose":
        return is_tuple_of(node[2], is_test)
    if kind == "map":
        return is_tuple_of(node[2], is_term)
    if kind in ("join", "without"):
        return is_tuple_of(node[3], is_pair)
    if kind == "group":
        return is_tuple_of(node[2], is_column) and is_sort(node[3])
    if kind == "top":
        return is_tuple_of(node[2], is_column) and is_number(node[3]) and node[3] >= 1
    return True


def has_form(node):
    """Whether the value has one of the forms of a plan, its sub-plans aside."""
    if not isinstance(node, tuple) or not node:
        return False
    kind = node[0]
    if not isinstance(kind, str) or kind not in SIZES or len(node) != SIZES[kind]:
        return False
    return is_filled_right(node)


def subplans(node):
    """The list of the sub-plans of a node."""
    return [node[place] for place in SUBPLANS[node[0]]]


def parts_below(path, node):
    """The list of the pairs of the path and the node of each sub-plan of the node with the path."""
    return [(path + (position,), sub) for position, sub in enumerate(subplans(node))]


def with_subplan(node, position, other):
    """The node with another plan as its sub-plan at the position."""
    place = SUBPLANS[node[0]][position]
    return node[:place] + (other,) + node[place + 1:]


def check_forms(plan):
    """Raise BadPlan with the path of the first node, in preorder, that has none of the forms."""
    waiting = [((), plan)]
    while waiting:
        path, node = waiting.pop()
        if not has_form(node):
            raise BadPlan(path)
        waiting.extend(parts_below(path, node)[::-1])
