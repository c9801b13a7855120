"""The answers of plans over tables, worked out from nothing."""

from deltamill.bags import bag_of_tally, tally_in
from deltamill.plans import tables_of
from deltamill.settling import settled
from deltamill.works import work


def worked(node, *bags):
    """The bag that a node makes of one bag for each of its sub-plans; it is no table and no loop."""
    return bag_of_tally(work(node, [tally_in(bag) for bag in bags]))


def answer(plan, tables):
    """The bag of the plan over a dict of tables."""
    return bag_of_tally(settled(plan, tallies_of(plan, tables)))


def tallies_of(plan, tables):
    """The tallies of the plan's free tables that are in the dict of tables."""
    return {name: tally_in(tables[name]) for name in tables_of(plan) if name in tables}
