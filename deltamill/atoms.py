"""Queries are pairs of a head and a body; here their variables are named anew and given terms."""


def variables_of(body):
    """The list of the variables of a body, in the order in which they first occur."""
    found = {}
    for _, terms in body:
        for kind, number in terms:
            if kind == "var":
                found[number] = True
    return list(found)


def numbers_of(query):
    """The list of the numbers of a query."""
    head, body = query
    terms = list(head) + [term for _, inside in body for term in inside]
    return [number for kind, number in terms if kind == "num"]


def given_terms(terms, given):
    """The tuple of terms in which the variables have the terms of the dict `given`; others stay."""
    return tuple([given.get(number, (kind, number)) if kind == "var" else (kind, number) for kind, number in terms])


def given_query(query, given):
    """The query in which the variables have the terms of the dict `given`; others stay."""
    head, body = query
    return (given_terms(head, given), tuple([(name, given_terms(terms, given)) for name, terms in body]))


def numbered(query):
    """The query with its variables numbered by first occurrence in the body."""
    given = {variable: ("var", index) for index, variable in enumerate(variables_of(query[1]))}
    return given_query(query, given)


def root_of(term, given):
    """The term that a term has by now, for a dict in which a variable may lead to another one."""
    while term[0] == "var" and term[1] in given:
        term = given[term[1]]
    return term


def equated(query, pairs):
    """The query in which the two terms of each pair are equal, or None if two different numbers would be."""
    given = {}
    for first, second in pairs:
        left = root_of(first, given)
        right = root_of(second, given)
        if left == right:
            continue
        if left[0] == "var":
            given[left[1]] = right
        elif right[0] == "var":
            given[right[1]] = left
        else:
            return None
    return numbered(given_query(query, {variable: root_of(given[variable], given) for variable in given}))
