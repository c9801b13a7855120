"""Terms, which are linear expressions over the columns of a row, and tests of two terms."""

from deltamill.tallies import tally_of


def col(column):
    """The plain term of a column."""
    return (0, ((column, 1),))


def num(number):
    """The plain term of a number."""
    return (number, ())


def value_of(term, row):
    """The value of the term on the row."""
    constant, parts = term
    return constant + sum([factor * row[column] for column, factor in parts])


def values_of(terms, row):
    """The row of the values of the terms on the row."""
    return tuple([value_of(term, row) for term in terms])


def compares(left, op, right):
    """Whether two numbers compare as the op says."""
    if op == "=":
        return left == right
    if op == "!=":
        return left != right
    if op == "<":
        return left < right
    return left <= right


def holds(tests, row):
    """Whether all tests hold on the row."""
    return all([compares(value_of(left, row), op, value_of(right, row)) for left, op, right in tests])


def composed(term, terms):
    """The term whose value on a row is that of `term` on the row of the values of `terms`."""
    constant, parts = term
    factors = tally_of([(column, outer * inner) for at, outer in parts for column, inner in terms[at][1]])
    total = constant + sum([outer * terms[at][0] for at, outer in parts])
    return (total, tuple(sorted(factors.items())))


def is_plain(term):
    """Whether the term is a column or a number."""
    constant, parts = term
    return parts == () or (constant == 0 and len(parts) == 1 and parts[0][1] == 1)


def columns_of(term):
    """The list of the columns of the term, in their order."""
    return [column for column, _ in term[1]]
