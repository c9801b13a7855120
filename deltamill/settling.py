"""The answers of plans from nothing as tallies, and the rounds by which loops settle."""

from deltamill.forms import subplans, with_subplan
from deltamill.tallies import plus
from deltamill.widths import contains
from deltamill.works import positive, work


def settled(plan, tables):
    """The tally of the plan's answer, for a dict from names of tables to tallies."""
    if plan[0] == "table":
        return tables.get(plan[1], {})
    if plan[0] == "loop":
        return rounds_over(plan, tables)[-1]
    return work(plan, [settled(sub, tables) for sub in subplans(plan)])


def rounds_over(loop, tables):
    """The list of the tallies X0, X1, up to the first one that is equal to its successor."""
    name, start, step = loop[1:]
    first = settled(start, tables)
    within = {table: tables[table] for table in tables}
    short = shortened(step, name, tables, within)
    found = [{}]
    while True:
        last = found[-1]
        within[name] = last
        told = plus(first, settled(short, within))
        grown = {row: 1 for row in list(last) + positive(told)}
        # No round takes a row back.
        if len(grown) == len(last):
            return found
        found.append(grown)


def shortened(node, name, tables, within):
    """The node with tables in the place of all parts that do not change from round to round.

    Their answers are put into `within` under words that are the names of no tables.
    """
    if not contains(node, name):
        word = "#" + str(len(within))
        within[word] = settled(node, tables)
        return ("table", word)
    # What lies in a loop inside may change with the rounds of that loop.
    if node[0] == "loop":
        return node
    made = node
    for position, sub in enumerate(subplans(node)):
        made = with_subplan(made, position, shortened(sub, name, tables, within))
    return made
