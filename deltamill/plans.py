"""Plans: trees of parts over tables, their widths and their parts."""

from deltamill.checks import is_number
from deltamill.errors import NameTaken, NoPart, NotPolynomial
from deltamill.forms import check_forms, parts_below, subplans, with_subplan
from deltamill.widths import node_width

NOT_MONOTONE = ("less", "without", "group", "top")
POLYNOMIAL = ("table", "choose", "map", "join", "plus", "less")


def width_of(plan, widths):
    """The number of columns of the plan's rows, for a dict from names of tables to their numbers of columns."""
    check_forms(plan)
    return node_width(plan, (), widths, ())


def walk_parts(plan):
    """Yield the pairs of path and node in preorder."""
    waiting = [((), plan)]
    while waiting:
        path, node = waiting.pop()
        yield (path, node)
        waiting.extend(parts_below(path, node)[::-1])


def part_at(plan, path):
    """The node with the path."""
    if not isinstance(path, tuple):
        raise NoPart(path)
    node = plan
    for position in path:
        below = subplans(node)
        if not is_number(position) or not 0 <= position < len(below):
            raise NoPart(path)
        node = below[position]
    return node


def replaced(plan, path, other):
    """The plan in which the node with the path is another plan."""
    part_at(plan, path)
    return grafted(plan, path, other)


def grafted(node, path, other):
    """The node in which the part with the path, which is there, is another plan."""
    if not path:
        return other
    position = path[0]
    sub = grafted(subplans(node)[position], path[1:], other)
    return with_subplan(node, position, sub)


def free_parts(node, path, loops):
    """The free table parts of a node as triples of path, name and the loops in whose steps they lie, with their paths.

    `loops` has those in whose steps the node itself lies, as pairs of path and name.
    """
    if node[0] == "table":
        own = node[1] in [name for _, name in loops]
        return [] if own else [(path, node[1], loops)]
    found = []
    for position, sub in enumerate(subplans(node)):
        is_step = node[0] == "loop" and position == 1
        around = loops + ((path, node[1]),) if is_step else loops
        found.extend(free_parts(sub, path + (position,), around))
    return found


def tables_of(plan):
    """The ascending list of the names of the free tables."""
    return sorted({part[1] for part in free_parts(plan, (), ())})


def substituted(plan, name, other):
    """The plan with another plan in the place of every free table part with the name."""
    found = [(path, loops) for path, table, loops in free_parts(plan, (), ()) if table == name]
    tables = tables_of(other)
    taken = [loop for _, loops in found for loop in loops if loop[1] in tables]
    if taken:
        # Paths ascend in preorder.
        path, word = min(taken)
        raise NameTaken(path, word)
    made = plan
    for path, _ in found:
        made = grafted(made, path, other)
    return made


def is_monotone(plan):
    """Whether no node is a less, a without, a group or a top."""
    return not any([node[0] in NOT_MONOTONE for _, node in walk_parts(plan)])


def is_polynomial(plan):
    """Whether all nodes are table, choose, map, join, plus or less."""
    return all([node[0] in POLYNOMIAL for _, node in walk_parts(plan)])


def check_polynomial(plan):
    """Raise NotPolynomial with the path of the first node, in preorder, that a polynomial plan cannot have."""
    for path, node in walk_parts(plan):
        if node[0] not in POLYNOMIAL:
            raise NotPolynomial(path)


def degree(plan):
    """The degree of a polynomial plan."""
    check_polynomial(plan)
    return degree_of(plan)


def degree_of(node):
    """The degree of a node of a polynomial plan."""
    if node[0] == "table":
        return 1
    below = [degree_of(sub) for sub in subplans(node)]
    return sum(below) if node[0] == "join" else max(below)
