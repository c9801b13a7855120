"""The seventeen rules, where they fit, and the plans that they make."""

from deltamill.errors import BadSteps, NoPart, NoStep
from deltamill.forms import parts_below, subplans
from deltamill.plans import part_at, replaced
from deltamill.turns import reach_below, turned

RULES = ("drop-choose", "merge-choose", "choose-plus", "choose-less", "choose-distinct", "choose-map",
         "choose-without", "choose-join", "merge-map", "drop-map", "map-plus", "map-less", "join-plus-left",
         "join-plus-right", "without-plus", "without-distinct", "drop-distinct")


def rules_at(node, reach):
    """The list of the rules that fit at the node, in their order."""
    return [rule for rule in RULES if turned(rule, node, reach) is not None]


def reach_at(plan, path, widths):
    """The widths of the tables that the part with the path, which is there, can use."""
    node = plan
    reach = widths
    for position in path:
        reach = reach_below(node, position, reach)
        node = subplans(node)[position]
    return reach


def fitting(plan, widths):
    """The list of the pairs of a rule and a path that fit."""
    return fitting_below((), plan, widths)


def fitting_below(path, node, reach):
    """The pairs that fit at the node with the path and at the parts of it."""
    found = [(rule, path) for rule in rules_at(node, reach)]
    for position, (place, sub) in enumerate(parts_below(path, node)):
        found.extend(fitting_below(place, sub, reach_below(node, position, reach)))
    return found


def rewritten(plan, rule, path, widths):
    """The plan in which the rule has rewritten the node with the path."""
    try:
        node = part_at(plan, path)
    except NoPart:
        raise NoStep(rule, path)
    made = turned(rule, node, reach_at(plan, path, widths)) if is_rule(rule) else None
    if made is None:
        raise NoStep(rule, path)
    return replaced(plan, path, made)


def is_rule(value):
    """Whether the value is the name of a rule."""
    return isinstance(value, str) and value in RULES


def replayed(plan, steps, widths):
    """The plan that the steps lead to."""
    made = plan
    for index, (rule, path) in enumerate(steps):
        try:
            made = rewritten(made, rule, path, widths)
        except NoStep:
            raise BadSteps(index)
    return made


def normal(plan, widths):
    """The plan in which no rule fits any more and the list of the pairs that led there, always the first that fits."""
    made = plan
    steps = []
    path = ()
    # Nothing fits at the nodes that come before `path` in preorder.
    while path is not None:
        found = rules_at(part_at(made, path), reach_at(made, path, widths))
        if not found:
            path = following(made, path)
            continue
        made = rewritten(made, found[0], path, widths)
        steps.append((found[0], path))
        # A rule looks at a node and its sub-plans, so of the nodes before only the one above may fit now.
        above = path[:-1]
        if path and rules_at(part_at(made, above), reach_at(made, above, widths)):
            path = above
    return (made, steps)


def following(plan, path):
    """The path that comes behind the path in preorder, or None."""
    if subplans(part_at(plan, path)):
        return path + (0,)
    while path:
        above = path[:-1]
        if path[-1] + 1 < len(subplans(part_at(plan, above))):
            return above + (path[-1] + 1,)
        path = above
    return None
