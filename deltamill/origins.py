"""Origins: how the rows of a polynomial plan's answer come from rows of the tables."""

from deltamill.forms import subplans
from deltamill.plans import check_polynomial
from deltamill.polynomials import Polynomial
from deltamill.terms import holds, values_of
from deltamill.works import by_values, picked


def origin(plan, tables, row):
    """The origin of the row: a polynomial."""
    check_polynomial(plan)
    return origins_in(plan, tables).get(row, Polynomial())


def origins(plan, tables):
    """The ascending list of the pairs of a row and its origin, of all rows whose origin is not 0."""
    check_polynomial(plan)
    found = origins_in(plan, tables)
    return [(row, found[row]) for row in sorted(found)]


def summed(pairs):
    """A dict from rows to the sums of the polynomials that a list of pairs has for them, but for those that are 0."""
    terms = {}
    for row, polynomial in pairs:
        terms.setdefault(row, []).extend(polynomial.terms())
    sums = {row: Polynomial(terms[row]) for row in terms}
    return {row: sums[row] for row in sums if len(sums[row]) > 0}


def joined(node, left, right):
    """The origins of a join, for dicts of the origins of both sides."""
    columns = [pair[0] for pair in node[3]]
    matches = by_values(right, [pair[1] for pair in node[3]])
    return summed([(row + match, left[row] * right[match])
                   for row in left for match in matches.get(picked(row, columns), [])])


def origins_in(node, tables):
    """A dict from the rows of a node to their origins, but for those that are 0."""
    kind = node[0]
    if kind == "table":
        rows = [row for row, _ in tables[node[1]].pairs()] if node[1] in tables else []
        return {row: Polynomial.of_token(node[1], row) for row in rows}
    below = [origins_in(sub, tables) for sub in subplans(node)]
    first = below[0]
    if kind == "choose":
        return {row: first[row] for row in first if holds(node[2], row)}
    if kind == "map":
        return summed([(values_of(node[2], row), first[row]) for row in first])
    second = below[1]
    if kind == "join":
        return joined(node, first, second)
    sign = -1 if kind == "less" else 1
    return summed([(row, first[row]) for row in first] + [(row, sign * second[row]) for row in second])
