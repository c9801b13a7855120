"""Unions as sets: whether one contains another, their forms, and rows that are needless for them."""

from deltamill.atoms import equated
from deltamill.mappings import mapping_to
from deltamill.papers import check_like_widths, frozen, number_behind, tables_of_both, tables_with
from deltamill.plans import tables_of
from deltamill.queries import core, least_form, mapping_of, members, restricted


def contained(p, q, widths):
    """Whether every row of the answer of p is a row of the answer of q, for all plain tables."""
    return not uncovered(p, q, widths)[0]


def alike(p, q, widths):
    """Whether both unions contain each other."""
    return contained(p, q, widths) and contained(q, p, widths)


def uncovered(p, q, widths):
    """A pair of the list of the members of p that q does not contain and the list of the members of q."""
    first = members(p, widths)
    second = members(q, widths)
    check_like_widths(p, q, widths)
    return ([query for query in first if not covers(second, query[0], query[1])], second)


def covers(queries, head, atoms):
    """Whether one of the queries can become one with the head and some of the atoms."""
    return any([mapping_to(query, head, atoms) is not None for query in queries])


def parting(p, q, widths):
    """None if p is contained in q; otherwise a pair of tables, with the fewest rows, and a row that part them."""
    starts, others = uncovered(p, q, widths)
    if not starts:
        return None
    found = fewest(starts, lambda query: not covers(others, query[0], query[1]))
    counted, row = frozen(found, number_behind([found] + others))
    return (tables_with(tables_of_both(p, q), [(token, 1) for token in counted]), row)


def without_twins(query):
    """The query with each atom once."""
    head, body = query
    return (head, tuple(list({atom: True for atom in body})))


def merged(query):
    """The list of the queries that arise when two atoms are made equal."""
    atoms = query[1]
    made = [equated(query, list(zip(atom[1], other[1]))) for index, atom in enumerate(atoms)
            for other in atoms[:index] if atom[0] == other[0]]
    return [without_twins(other) for other in made if other is not None]


def fewest(starts, holds_for):
    """The query with the fewest atoms for which the function holds, or None.

    It arises from one of the starts by making atoms equal, one after the other, and the function holds all the way.
    """
    waiting = [without_twins(query) for query in starts]
    known = {}
    best = None
    while waiting:
        query = waiting.pop()
        if query in known:
            continue
        known[query] = True
        if holds_for(query):
            if best is None or len(query[1]) < len(best[1]):
                best = query
            waiting.extend(merged(query))
    return best


def union_form(plan, widths):
    """The ascending list of the least forms of the cores of the members, but for those contained in greater ones."""
    cores = [least_form(restricted(query, core(query))) for query in members(plan, widths)]
    found = sorted(set(cores))
    return [query for query in found if not any([is_within(query, other) for other in found])]


def is_within(query, other):
    """Whether the query is contained in the other one and does not contain it."""
    return mapping_of(other, query) is not None and mapping_of(query, other) is None


def needless(plan, widths, name, row):
    """None if the row of the table is needless; otherwise a pair of tables, with the fewest rows, and a made row."""
    queries = members(plan, widths)
    atom = (name, tuple([("num", number) for number in row]))
    starts = [start for query in queries for start in with_atom(query, atom)]
    found = fewest(starts, lambda query: not covers(queries, query[0], without_atom(query[1], atom)))
    if found is None:
        return None
    counted, made = frozen(found, number_behind([found] + queries))
    return (tables_with(tables_of(plan), [(token, 1) for token in counted]), made)


def with_atom(query, atom):
    """The list of the queries that arise when one atom or several become the given one."""
    head, body = query
    pairs = [[]]
    for name, terms in body:
        if name == atom[0]:
            pairs = pairs + [some + list(zip(terms, atom[1])) for some in pairs]
    made = [equated(query, some) for some in pairs[1:]]
    return [other for other in made if other is not None]


def without_atom(body, atom):
    """The list of the atoms that are not the given one."""
    return [other for other in body if other != atom]
