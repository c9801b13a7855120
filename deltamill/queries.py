"""Queries: how plans are multiplied out into them, their least forms, mappings and cores."""

from deltamill.atoms import given_terms, numbered
from deltamill.mappings import mapping_to
from deltamill.products import SUM, UNION, check_query, multiplied
from deltamill.terms import col, num


def summands(plan, widths):
    """The list of the pairs of a sign and a query that a sum is multiplied out into."""
    check_query(plan, SUM)
    return multiplied(plan, widths)


def members(plan, widths):
    """The list of the queries that a union is multiplied out into."""
    check_query(plan, UNION)
    return [query for _, query in multiplied(plan, widths)]


def plan_of(query):
    """A plan without plus, less and distinct whose only summand is the query."""
    head, body = query
    plan = ("table", body[0][0])
    for name, _ in body[1:]:
        plan = ("join", plan, ("table", name), ())
    columns = {}
    tests = []
    for column, term in enumerate([term for _, terms in body for term in terms]):
        if term in columns or term[0] == "num":
            tests.append((col(column), "=", plain_term(term, columns)))
        else:
            columns[term] = column
    if tests:
        plan = ("choose", plan, tuple(tests))
    return ("map", plan, tuple([plain_term(term, columns) for term in head]))


def plain_term(term, columns):
    """The term of a plan for a number or for a variable whose column the dict has."""
    return col(columns[term]) if term in columns else num(term[1])


def least_form(query):
    """The least query that arises by naming the variables anew and putting the atoms in another order."""
    head, body = query
    given = with_names(head, {})
    states = [(given, list(body))]
    found = []
    # The least body begins with the least atom that can be made; in it new variables have the next numbers in order.
    for _ in body:
        least = min([named(atom, names) for names, atoms in states for atom in atoms])
        states = states_behind(least, states)
        found.append(least)
    return (given_terms(head, given), tuple(found))


def with_names(terms, names):
    """The dict from variables to their new names, in which new variables of the terms have the next numbers."""
    made = {variable: names[variable] for variable in names}
    for kind, number in terms:
        if kind == "var" and number not in made:
            made[number] = ("var", len(made))
    return made


def named(atom, names):
    """The atom with the new names of its variables; other ones get the next numbers."""
    return (atom[0], given_terms(atom[1], with_names(atom[1], names)))


def states_behind(least, states):
    """The states that arise when one atom that becomes the least one is taken, for pairs of names and atoms left."""
    found = {}
    for names, atoms in states:
        for index, atom in enumerate(atoms):
            if named(atom, names) == least:
                made = with_names(atom[1], names)
                left = atoms[:index] + atoms[index + 1:]
                # What was done to the atoms that are taken does not matter any more.
                found[left_over(left, made)] = (made, left)
    return list(found.values())


def left_over(atoms, names):
    """The same value for two states in which the same atoms are left and their variables have the same names."""
    marks = {variable: ("new", names[variable][1]) for variable in names}
    return tuple(sorted([(name, given_terms(terms, marks)) for name, terms in atoms]))


def mapping_of(query, other):
    """The least mapping from the query to the other one: a tuple of terms, or None."""
    return mapping_to(query, other[0], other[1])


def restricted(query, indexes):
    """The query with the atoms at these indexes alone."""
    head, body = query
    return numbered((head, tuple([body[index] for index in indexes])))


def core(query):
    """The shortest and then least list of indexes of atoms that is enough."""
    head, body = query
    for many in range(len(body) + 1):
        for indexes in ascending_lists(0, len(body), many):
            if mapping_to(query, head, [body[index] for index in indexes]) is not None:
                return indexes
    return list(range(len(body)))


def ascending_lists(first, end, many):
    """All ascending lists of so many numbers from `first` up to `end`, in ascending order."""
    if many == 0:
        return [[]]
    return [[number] + rest for number in range(first, end) for rest in ascending_lists(number + 1, end, many - 1)]
