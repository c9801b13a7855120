"""Plans for the change of an answer."""

from deltamill.forms import subplans
from deltamill.plans import substituted, tables_of


def changed_name(name):
    """The name of the table that holds the change of a table."""
    return name + "'"


def change_plan(plan):
    """The plan whose answer is that over the changed tables minus that over the tables."""
    kind = plan[0]
    if kind == "table":
        return ("table", changed_name(plan[1]))
    if kind in ("choose", "map"):
        return (kind, change_plan(plan[1])) + plan[2:]
    if kind in ("plus", "less"):
        return (kind,) + tuple([change_plan(sub) for sub in subplans(plan)])
    if kind == "join":
        return join_change(plan)
    return ("less", over_changed(plan), plan)


def join_change(plan):
    """The change plan of a join."""
    left, right, pairs = plan[1:]
    new_left = change_plan(left)
    new_right = change_plan(right)
    one_side = ("plus", ("join", new_left, right, pairs), ("join", left, new_right, pairs))
    return ("plus", one_side, ("join", new_left, new_right, pairs))


def over_changed(plan):
    """The plan over the changed tables."""
    made = plan
    for name in tables_of(plan):
        made = substituted(made, name, ("plus", ("table", name), ("table", changed_name(name))))
    return made
