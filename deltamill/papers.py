"""Papers: tables and a row that show something of queries. The variables become numbers that occur nowhere else."""

from deltamill.atoms import numbers_of
from deltamill.bags import Bag
from deltamill.errors import UnlikeWidths
from deltamill.plans import tables_of, width_of


def check_like_widths(p, q, widths):
    """Raise UnlikeWidths unless both plans have the same width."""
    left = width_of(p, widths)
    right = width_of(q, widths)
    if left != right:
        raise UnlikeWidths((), left, right)


def tables_of_both(p, q):
    """The ascending list of the names of the free tables of either plan."""
    return sorted(set(tables_of(p) + tables_of(q)))


def number_behind(queries):
    """A number that is greater than all numbers of the queries."""
    return 1 + max([abs(number) for query in queries for number in numbers_of(query)], default=0)


def frozen_row(terms, first):
    """The row of the terms, in which the variables are the numbers from `first` on."""
    return tuple([number + first if kind == "var" else number for kind, number in terms])


def frozen(query, first):
    """A pair of the ascending list of the tokens of the atoms and the row of the head."""
    head, body = query
    return (sorted({(name, frozen_row(terms, first)) for name, terms in body}), frozen_row(head, first))


def tables_with(names, counted):
    """A dict with a bag for each name, for a list of pairs of a token and a count."""
    return {name: Bag([(row, count) for (table, row), count in counted if table == name]) for name in names}
