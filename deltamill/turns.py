"""What each rule makes of a node, or None where it does not fit.

`reach` has the widths of the tables that a plan at this place can use, own tables of loops too.
"""

from deltamill.forms import subplans
from deltamill.terms import col, columns_of, composed


def width_within(node, reach):
    """The width of a plan that fits."""
    kind = node[0]
    if kind == "table":
        return reach[node[1]]
    if kind == "map":
        return len(node[2])
    if kind == "group":
        return len(node[2]) + 1
    below = subplans(node)
    if kind == "join":
        return width_within(below[0], reach) + width_within(below[1], reach)
    return width_within(below[0], reach)


def reach_below(node, position, reach):
    """The widths that the sub-plan at the position can use: a step of a loop has the own table too."""
    if node[0] != "loop" or position == 0:
        return reach
    inside = {name: reach[name] for name in reach}
    inside[node[1]] = width_within(node[2], reach)
    return inside


def is_over(node, kind, below):
    """Whether the node is of the one kind and its first sub-plan of the other one."""
    return node[0] == kind and node[1][0] == below


def over_both(node, kind):
    """The plan of the kind with the node, which stands over such a plan, over each of the sub-plans of that."""
    return (kind, (node[0], node[1][1]) + node[2:], (node[0], node[1][2]) + node[2:])


def drop_choose(node, _):
    """A choose without tests becomes its sub-plan."""
    return node[1] if node[0] == "choose" and not node[2] else None


def merge_choose(node, _):
    """A choose over a choose becomes one choose."""
    if not is_over(node, "choose", "choose"):
        return None
    return ("choose", node[1][1], node[1][2] + node[2])


def choose_plus(node, _):
    """A choose over a plus becomes a plus."""
    return over_both(node, "plus") if is_over(node, "choose", "plus") else None


def choose_less(node, _):
    """A choose over a less becomes a less."""
    return over_both(node, "less") if is_over(node, "choose", "less") else None


def choose_distinct(node, _):
    """A choose over a distinct becomes the distinct of the choose."""
    if not is_over(node, "choose", "distinct"):
        return None
    return ("distinct", ("choose", node[1][1], node[2]))


def choose_map(node, _):
    """A choose over a map becomes the map over a choose."""
    if not is_over(node, "choose", "map"):
        return None
    terms = node[1][2]
    tests = tuple([(composed(left, terms), op, composed(right, terms)) for left, op, right in node[2]])
    return ("map", ("choose", node[1][1], tests), terms)


def choose_without(node, _):
    """A choose over a without becomes the without with the choose over its left sub-plan."""
    if not is_over(node, "choose", "without"):
        return None
    left, right, pairs = node[1][1:]
    return ("without", ("choose", left, node[2]), right, pairs)


def chosen(tests, plan):
    """The choose over the plan, or the plan itself without tests."""
    return ("choose", plan, tuple(tests)) if tests else plan


def lowered(term, by):
    """The term with all columns lowered."""
    constant, parts = term
    return (constant, tuple([(column - by, factor) for column, factor in parts]))


def choose_join(node, reach):
    """A choose over a join gives tests to its sides, if at least one goes to a side."""
    if not is_over(node, "choose", "join"):
        return None
    left, right, pairs = node[1][1:]
    width = width_within(left, reach)
    to_left = []
    to_right = []
    stay = []
    for first, op, last in node[2]:
        columns = columns_of(first) + columns_of(last)
        if all([column < width for column in columns]):
            to_left.append((first, op, last))
        elif all([column >= width for column in columns]):
            to_right.append((lowered(first, width), op, lowered(last, width)))
        else:
            stay.append((first, op, last))
    if not to_left and not to_right:
        return None
    return chosen(stay, ("join", chosen(to_left, left), chosen(to_right, right), pairs))


def merge_map(node, _):
    """A map over a map becomes one map."""
    if not is_over(node, "map", "map"):
        return None
    return ("map", node[1][1], tuple([composed(term, node[1][2]) for term in node[2]]))


def drop_map(node, reach):
    """A map of just the columns of its sub-plan becomes that."""
    if node[0] != "map" or node[2] != tuple([col(column) for column in range(len(node[2]))]):
        return None
    return node[1] if width_within(node[1], reach) == len(node[2]) else None


def map_plus(node, _):
    """A map over a plus becomes a plus."""
    return over_both(node, "plus") if is_over(node, "map", "plus") else None


def map_less(node, _):
    """A map over a less becomes a less."""
    return over_both(node, "less") if is_over(node, "map", "less") else None


def join_plus_left(node, _):
    """A join whose left sub-plan is a plus becomes a plus."""
    return over_both(node, "plus") if is_over(node, "join", "plus") else None


def join_plus_right(node, _):
    """A join whose right sub-plan is a plus becomes a plus."""
    if node[0] != "join" or node[2][0] != "plus":
        return None
    left, right, pairs = node[1:]
    return ("plus", ("join", left, right[1], pairs), ("join", left, right[2], pairs))


def without_plus(node, _):
    """A without whose left sub-plan is a plus becomes a plus."""
    return over_both(node, "plus") if is_over(node, "without", "plus") else None


def without_distinct(node, _):
    """A without whose right sub-plan is a distinct becomes the without with the sub-plan of that."""
    if node[0] != "without" or node[2][0] != "distinct":
        return None
    return ("without", node[1], node[2][1], node[3])


def drop_distinct(node, _):
    """A distinct over a plan whose counts are all 1 becomes that."""
    return node[1] if node[0] == "distinct" and node[1][0] in ("distinct", "group", "loop") else None


TURNS = {"drop-choose": drop_choose, "merge-choose": merge_choose, "choose-plus": choose_plus,
         "choose-less": choose_less, "choose-distinct": choose_distinct, "choose-map": choose_map,
         "choose-without": choose_without, "choose-join": choose_join, "merge-map": merge_map, "drop-map": drop_map,
         "map-plus": map_plus, "map-less": map_less, "join-plus-left": join_plus_left,
         "join-plus-right": join_plus_right, "without-plus": without_plus, "without-distinct": without_distinct,
         "drop-distinct": drop_distinct}


def turned(rule, node, reach):
    """What the rule makes of the node, or None if it does not fit."""
    turn = TURNS[rule]
    return turn(node, reach)
