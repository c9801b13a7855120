"""Queries, written down once more without the package, and queries and plans by chance."""

import itertools

from deltamill.terms import col, num
from plan_samples import as_wide

KINDS = {"sum": ("table", "table", "choose", "choose", "map", "join", "plus", "less"),
         "union": ("table", "table", "choose", "choose", "map", "join", "plus", "distinct")}
SMALL = {"a": 2, "b": 2, "d": 1, "e": 0}


class Dropped(Exception):
    """Two different numbers would have to be equal."""


def var(number):
    return ("var", number)


def query_of(text, names=()):
    """A query from a short text: `x,5:a(x,y) b(y,y)`, with letters as variables, numbered as the body lists them."""
    head, body = text.split(":")
    names = dict(names)

    def term(word):
        return var(names.setdefault(word, len(names))) if word.isalpha() else ("num", int(word))

    atoms = [(atom.split("(")[0], tuple(term(word) for word in atom.split("(")[1][:-1].split(",") if word))
             for atom in body.split()]
    return (tuple(term(word) for word in head.split(",") if word), tuple(atoms))


def variables_in(query):
    return sorted({number for _, terms in query[1] for kind, number in terms if kind == "var"})


def terms_in(query):
    return sorted({term for _, terms in query[1] for term in terms})


def put(query, image):
    """The query with the images of its variables: a dict."""
    def new(terms):
        return tuple(image[term[1]] if term[0] == "var" else term for term in terms)

    return (new(query[0]), tuple((name, new(terms)) for name, terms in query[1]))


def multiply(plan, widths):
    """Pairs of a sign and a query: columns are cells, which are made equal at the end only."""
    found = []
    for sign, head, body, equal in cells_of(plan, widths, itertools.count()):
        groups = {cell: {cell} for _, cells in body for cell in cells}
        for left, right in equal:
            both = groups.get(left, {left}) | groups.get(right, {right})
            for cell in both:
                groups[cell] = both
        values = {cell: [part for part in groups[cell] if isinstance(part, str)] for cell in groups}
        assert all(len(told) < 2 for told in values.values())
        order = {}

        def term(cell):
            if isinstance(cell, str):
                return ("num", int(cell))
            if values[cell]:
                return ("num", int(values[cell][0]))
            return var(order.setdefault(min(groups[cell]), len(order)))

        atoms = tuple((name, tuple(term(cell) for cell in cells)) for name, cells in body)
        found.append((sign, (tuple(term(cell) for cell in head), atoms)))
    return found


def fits_together(equal):
    groups = {}
    for left, right in equal:
        both = groups.get(left, {left}) | groups.get(right, {right})
        for cell in both:
            groups[cell] = both
    return all(len([part for part in group if isinstance(part, str)]) < 2 for group in groups.values())


def cells_of(plan, widths, fresh):
    """Lists of a sign, a head, a body and pairs that must be equal. A number is a text, any other cell a number."""
    def at(term, head):
        return head[term[1][0][0]] if term[1] else str(term[0])

    kind = plan[0]
    if kind == "table":
        cells = [next(fresh) for _ in range(widths[plan[1]])]
        return [(1, cells, [(plan[1], cells)], [])]
    first = cells_of(plan[1], widths, fresh)
    if kind == "distinct":
        return first
    if kind == "map":
        return [(sign, [at(term, head) for term in plan[2]], body, equal) for sign, head, body, equal in first]
    if kind == "choose":
        made = [(sign, head, body, equal + [(at(left, head), at(right, head)) for left, _, right in plan[2]])
                for sign, head, body, equal in first]
        return [one for one in made if fits_together(one[3])]
    second = cells_of(plan[2], widths, fresh)
    if kind == "join":
        made = [(sign * other, head + more, body + rest, equal + same + [(head[i], more[j]) for i, j in plan[3]])
                for sign, head, body, equal in first for other, more, rest, same in second]
        return [one for one in made if fits_together(one[3])]
    turn = -1 if kind == "less" else 1
    return first + [(turn * one[0],) + one[1:] for one in second]


def query_by_hand(query, tables):
    """The dict of counts of the query's answer over dicts of counts."""
    head, body = query
    made = {}
    for rows in itertools.product(*[tables.get(name, {}).items() for name, _ in body]):
        image, count = {}, 1
        fits = True
        for (_, terms), (row, many) in zip(body, rows):
            count *= many
            for (kind, number), value in zip(terms, row):
                fits = fits and value == (number if kind == "num" else image.setdefault(number, value))
        if fits:
            row = tuple(number if kind == "num" else image[number] for kind, number in head)
            made[row] = made.get(row, 0) + count
    return {row: count for row, count in made.items() if count != 0}


def images(query, other):
    """All dicts from the variables of the query to terms of the other one, in ascending order of the terms."""
    variables = variables_in(query)
    for terms in itertools.product(terms_in(other), repeat=len(variables)):
        yield dict(zip(variables, terms))


def maps_by_hand(query, head, atoms, other):
    """The mappings to the head and to atoms of the other query, ascending."""
    found = []
    for image in images(query, other):
        made = put(query, image)
        if made[0] == head and set(made[1]) <= set(atoms):
            found.append(tuple(image[variable] for variable in sorted(image)))
    return found


def maps(query, other):
    return bool(maps_by_hand(query, other[0], other[1], other))


def least_by_hand(query):
    variables = variables_in(query)
    made = [put(query, dict(zip(variables, [var(number) for number in numbers])))
            for numbers in itertools.permutations(range(len(variables)))]
    return min((head, tuple(sorted(body))) for head, body in made)


def core_by_hand(query):
    for many in range(len(query[1]) + 1):
        for indexes in itertools.combinations(range(len(query[1])), many):
            if maps_by_hand(query, query[0], [query[1][index] for index in indexes], query):
                return list(indexes)


def some_query(chance, atoms=3, variables=3, names="ad", numbers=(0, 1), head=2):
    """A query whose variables stand by first occurrence."""
    terms = [var(number) for number in range(variables)] * 3 + [("num", number) for number in numbers]
    body = tuple((name, tuple(chance.choice(terms) for _ in range(SMALL[name])))
                 for name in (chance.choice(names) for _ in range(chance.randint(1, atoms))))
    order = {}
    for _, inside in body:
        for kind, number in inside:
            if kind == "var":
                order.setdefault(number, var(len(order)))
    body = put(((), body), order)[1]
    usable = terms_in(((), body)) + [("num", number) for number in numbers[:1]]
    return (tuple(chance.choice(usable) for _ in range(chance.randint(0, head))), body)


def shuffled(chance, query):
    """The same query with other names of variables and another order of atoms."""
    variables = variables_in(query)
    new = chance.sample(variables, len(variables))
    head, body = put(query, dict(zip(variables, [var(number) for number in new])))
    return (head, tuple(chance.sample(body, len(body))))


def plain_term_for(chance, width, numbers=(0, 1, 1, 2)):
    return col(chance.randrange(width)) if width and chance.random() < 0.7 else num(chance.choice(numbers))


def some_sum(chance, depth, shape="sum", widths=SMALL):
    """A pair of a sum, or of a union, and its width."""
    kind = chance.choice(KINDS[shape]) if depth > 1 else "table"
    if kind == "table":
        name = chance.choice(sorted(widths))
        return ("table", name), widths[name]
    one, width = some_sum(chance, depth - 1, shape, widths)
    if kind == "distinct":
        return ("distinct", one), width
    if kind == "map":
        terms = tuple(plain_term_for(chance, width) for _ in range(chance.randint(0, 3)))
        return ("map", one, terms), len(terms)
    if kind == "choose":
        tests = tuple((plain_term_for(chance, width), "=", plain_term_for(chance, width))
                      for _ in range(chance.choice((0, 1, 1, 2))))
        return ("choose", one, tests), width
    two, other = some_sum(chance, depth - 1, shape, widths)
    if kind != "join":
        return (kind, one, as_wide(chance, two, other, width)), width
    many = chance.choice((0, 1, 1, 2)) if width and other else 0
    pairs = tuple((chance.randrange(width), chance.randrange(other)) for _ in range(many))
    return ("join", one, two, pairs), width + other


def small_sums(chance, many, shape="sum", depth=4, queries=6, atoms=3, wide=None):
    """Plans that multiply out to few and short queries, of the width `wide` if it is given."""
    found = []
    while len(found) < many:
        plan, width = some_sum(chance, depth, shape)
        if wide is not None:
            plan = as_wide(chance, plan, width, wide)
        told = multiply(plan, SMALL)
        if 0 < len(told) <= queries and all(len(query[1]) <= atoms for _, query in told):
            found.append(plan)
    return found
