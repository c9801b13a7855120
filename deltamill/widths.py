"""The widths of plans whose nodes all have one of the forms, and the rule of loops."""

from deltamill.errors import LoopRule, NameTaken, NoColumn, UnknownTable, UnlikeWidths
from deltamill.forms import parts_below, subplans
from deltamill.terms import columns_of, is_plain


def check_columns(columns, width, path):
    """Raise NoColumn for the first column that a sub-plan of the width does not have."""
    for column in columns:
        if column >= width:
            raise NoColumn(path, column)


def choose_width(node, path, below):
    """The width of a choose over sub-plans of these widths."""
    for left, _, right in node[2]:
        check_columns(columns_of(left) + columns_of(right), below[0], path)
    return below[0]


def map_width(node, path, below):
    """The width of a map."""
    for term in node[2]:
        check_columns(columns_of(term), below[0], path)
    return len(node[2])


def check_pairs(node, path, below):
    """Raise NoColumn for the first column of the pairs that its side does not have."""
    for left, right in node[3]:
        check_columns([left], below[0], path)
        check_columns([right], below[1], path)


def join_width(node, path, below):
    """The width of a join."""
    check_pairs(node, path, below)
    return below[0] + below[1]


def without_width(node, path, below):
    """The width of a without."""
    check_pairs(node, path, below)
    return below[0]


def like_width(node, path, below):
    """The common width of the sub-plans of a plus, a less or a loop."""
    if below[0] != below[1]:
        raise UnlikeWidths(path, below[0], below[1])
    return below[0]


def distinct_width(node, path, below):
    """The width of a distinct."""
    return below[0]


def group_width(node, path, below):
    """The width of a group."""
    keys, how = node[2:]
    check_columns(keys + how[1:], below[0], path)
    return len(keys) + 1


def top_width(node, path, below):
    """The width of a top."""
    check_columns(node[2], below[0], path)
    return below[0]


# What each kind of node makes of the widths of its sub-plans.
WIDTHS = {"choose": choose_width, "map": map_width, "join": join_width, "plus": like_width, "less": like_width,
          "distinct": distinct_width, "without": without_width, "group": group_width, "top": top_width}


def node_width(node, path, reach, loops):
    """The width of a node. `reach` has the widths of the tables, own ones too; `loops` the names of loops around it."""
    kind = node[0]
    if kind == "table":
        if node[1] not in reach:
            raise UnknownTable(path, node[1])
        return reach[node[1]]
    if kind == "loop":
        return loop_width(node, path, reach, loops)
    finish = WIDTHS[kind]
    return finish(node, path, [node_width(sub, place, reach, loops) for place, sub in parts_below(path, node)])


def loop_width(node, path, reach, loops):
    """The width of a loop."""
    name, start, step = node[1:]
    if name in reach or name in loops:
        raise NameTaken(path, name)
    inside = loops + (name,)
    width = node_width(start, path + (0,), reach, inside)
    within = {table: reach[table] for table in reach}
    within[name] = width
    like_width(node, path, [width, node_width(step, path + (1,), within, inside)])
    broken = rule_breaker(step, path + (1,), name)
    if broken is not None:
        raise LoopRule(broken)
    return width


def contains(node, name):
    """Whether a table part with the name lies in the node."""
    if node[0] == "table":
        return node[1] == name
    return any([contains(sub, name) for sub in subplans(node)])


def breaks_rule(node, name):
    """Whether the node must not stand in the step of the loop with the name."""
    kind = node[0]
    if kind == "without":
        return contains(node[2], name)
    if kind == "map":
        return contains(node, name) and not all([is_plain(term) for term in node[2]])
    return kind in ("less", "group", "top") and contains(node, name)


def rule_breaker(node, path, name):
    """The path of the first part of the node, in preorder, that breaks the rule of the loop with the name, or None."""
    if breaks_rule(node, name):
        return path
    for place, sub in parts_below(path, node):
        broken = rule_breaker(sub, place, name)
        if broken is not None:
            return broken
    return None
