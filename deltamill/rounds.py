"""The rounds by which a loop settles."""

from deltamill.bags import bag_of_tally
from deltamill.plain import tallies_of
from deltamill.settling import rounds_over


def rounds_of(plan, tables):
    """The list of the bags X0, X1, up to the first one that is equal to its successor."""
    return [bag_of_tally(counts) for counts in rounds_over(plan, tallies_of(plan, tables))]


def ranks(plan, tables):
    """The ascending list of the pairs of a row and the number of the first round that has it."""
    found = {}
    for number, counts in enumerate(rounds_over(plan, tallies_of(plan, tables))):
        for row in counts:
            found.setdefault(row, number)
    return sorted(found.items())
