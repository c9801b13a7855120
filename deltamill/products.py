"""How sums and unions are multiplied out into queries with signs."""

from deltamill.atoms import equated, given_query, variables_of
from deltamill.errors import NotQuery
from deltamill.forms import subplans
from deltamill.plans import walk_parts
from deltamill.terms import is_plain

SUM = ("table", "choose", "map", "join", "plus", "less")
UNION = ("table", "choose", "map", "join", "plus", "distinct")


def can_stand(node, kinds):
    """Whether the node can stand in a sum or a union, whose kinds of nodes are given."""
    if node[0] not in kinds:
        return False
    if node[0] == "choose":
        return all([op == "=" and is_plain(left) and is_plain(right) for left, op, right in node[2]])
    return node[0] != "map" or all([is_plain(term) for term in node[2]])


def check_query(plan, kinds):
    """Raise NotQuery with the path of the first node, in preorder, that cannot stand in a plan of these kinds."""
    for path, node in walk_parts(plan):
        if not can_stand(node, kinds):
            raise NotQuery(path)


def term_on(term, head):
    """The term of a query that a plain term of a plan has over a head."""
    constant, parts = term
    return head[parts[0][0]] if parts else ("num", constant)


def table_query(name, width):
    """The query of a table."""
    terms = tuple([("var", column) for column in range(width)])
    return (terms, ((name, terms),))


def chosen(query, tests):
    """What a choose makes of a query, or None."""
    head = query[0]
    return equated(query, [(term_on(left, head), term_on(right, head)) for left, _, right in tests])


def mapped(query, terms):
    """What a map makes of a query."""
    head, body = query
    return (tuple([term_on(term, head) for term in terms]), body)


def joined(left, right, pairs):
    """What a join makes of two queries, or None."""
    many = len(variables_of(left[1]))
    apart = given_query(right, {variable: ("var", variable + many) for variable in variables_of(right[1])})
    both = (left[0] + apart[0], left[1] + apart[1])
    return equated(both, [(left[0][first], apart[0][second]) for first, second in pairs])


def multiplied(node, widths):
    """The list of the pairs of a sign and a query of a node of a sum or a union."""
    kind = node[0]
    if kind == "table":
        return [(1, table_query(node[1], widths[node[1]]))]
    below = [multiplied(sub, widths) for sub in subplans(node)]
    first = below[0]
    if kind == "choose":
        return without_none([(sign, chosen(query, node[2])) for sign, query in first])
    if kind == "map":
        return [(sign, mapped(query, node[2])) for sign, query in first]
    if kind == "distinct":
        return first
    second = below[1]
    if kind == "join":
        return without_none([(sign * other, joined(left, right, node[3])) for sign, left in first
                             for other, right in second])
    turn = -1 if kind == "less" else 1
    return first + [(turn * sign, query) for sign, query in second]


def without_none(found):
    """The pairs of a sign and a query, without those that have None."""
    return [(sign, query) for sign, query in found if query is not None]
