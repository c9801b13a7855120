"""Sums as bags: their forms, tables that part two of them, and news that two branches make only together."""

from deltamill.atoms import variables_of
from deltamill.origins import summed
from deltamill.papers import check_like_widths, frozen, number_behind, tables_of_both, tables_with
from deltamill.plans import tables_of
from deltamill.polynomials import Polynomial
from deltamill.queries import least_form, summands
from deltamill.tallies import plus, tally_of, times


def coefficients(plan, widths):
    """The tally of the least forms of the summands."""
    return tally_of([(least_form(query), sign) for sign, query in summands(plan, widths)])


def count_form(plan, widths):
    """The ascending list of the pairs of the least form of a summand and its coefficient."""
    return sorted(coefficients(plan, widths).items())


def less_of(p, q, widths):
    """The tally of what the sum p has more than the sum q."""
    first = coefficients(p, widths)
    second = coefficients(q, widths)
    check_like_widths(p, q, widths)
    return plus(first, times(second, -1))


def same_counts(p, q, widths):
    """Whether both sums have equal answers, as bags, for all tables."""
    return not less_of(p, q, widths)


def count_parting(p, q, widths):
    """None if both sums have the same counts; otherwise a pair of tables and a row that part them."""
    form = less_of(p, q, widths)
    if not form:
        return None
    tokens, row = frozen(widest(list(form)), number_behind(list(form)))
    told = polynomial_of(form, tokens, row)
    return (tables_with(tables_of_both(p, q), telling_counts(told)), row)


def widest(queries):
    """A query with the most variables.

    Over the tables of its own atoms, no other query makes the product of the counts of all of them: each way to make
    it would need as many variables, and then both would have the same least form.
    """
    sizes = [len(variables_of(body)) for _, body in queries]
    return queries[sizes.index(max(sizes))]


def bound(terms, row, given):
    """The dict of the numbers of the variables with which the terms become the row, or None."""
    made = {variable: given[variable] for variable in given}
    for (kind, number), value in zip(terms, row):
        if kind == "var":
            made.setdefault(number, value)
        if value != (made[number] if kind == "var" else number):
            return None
    return made


def query_polynomial(query, tokens, row):
    """The polynomial of the count of the row in the answer of the query, over tables with these tokens alone."""
    head, body = query
    start = bound(head, row, {})
    found = {} if start is None else {tuple(sorted(start.items())): Polynomial.of_number(1)}
    for place, (name, terms) in enumerate(body):
        later = variables_of(body[place + 1:])
        steps = []
        for known in found:
            for table, values in tokens:
                made = bound(terms, values, dict(known)) if table == name else None
                if made is not None:
                    needed = tuple([(variable, made[variable]) for variable in sorted(made) if variable in later])
                    steps.append((needed, found[known] * Polynomial.of_token(table, values)))
        found = summed(steps)
    return found.get((), Polynomial())


def polynomial_of(form, tokens, row):
    """The polynomial of the count of the row, for a dict from queries to coefficients."""
    made = Polynomial()
    for query in form:
        made = made + query_polynomial(query, tokens, row) * form[query]
    return made


def telling_counts(polynomial):
    """The list of pairs of a token and a count of at least 1, for which a polynomial that is not 0 is not 0."""
    counted = []
    rest = polynomial
    for name, row in polynomial.tokens():
        count = 1
        # As a polynomial in one token it is 0 for only finitely many numbers.
        while len(rest.fixed(name, row, count)) == 0:
            count = count + 1
        rest = rest.fixed(name, row, count)
        counted.append(((name, row), count))
    return counted


def pair_between(query, first, second):
    """Two atoms, at different places, with names in `first` and in `second`: a pair, or None."""
    body = query[1]
    for place, atom in enumerate(body):
        for other in body[:place] + body[place + 1:]:
            if atom[0] in first and other[0] in second:
                return (atom, other)
    return None


def news_paper(plan, widths, first, second):
    """None if two branches, with the tables of `first` and of `second`, never make something only together.

    Otherwise a tuple of tables and of the changes of both, whose news is not empty.
    """
    form = coefficients(plan, widths)
    able = [query for query in form if pair_between(query, first, second) is not None]
    if not able:
        return None
    query = widest(able)
    start = number_behind(list(form))
    tokens, row = frozen(query, start)
    atoms = pair_between(query, first, second)
    one, other = [frozen(((), (atom,)), start)[0][0] for atom in atoms]
    told = polynomial_of(form, tokens, row)
    # A polynomial in which a product holds both tokens still differs after each of them is raised by 1.
    raised = told.changed(one[0], one[1], 1) - told
    news = raised.changed(other[0], other[1], 1) - raised
    tables = tables_with(tables_of(plan), telling_counts(news))
    return (tables, tables_with([one[0]], [(one, 1)]), tables_with([other[0]], [(other, 1)]))
