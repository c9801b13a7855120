"""What the document says of answers, written down once more without the package: bags are dicts of counts."""

from collections import Counter

from deltamill.bags import Bag


def without_zeros(counts):
    return {row: count for row, count in counts.items() if count != 0}


def value(term, row):
    return term[0] + sum(factor * row[column] for column, factor in term[1])


def passes(tests, row):
    ops = {"=": lambda a, b: a == b, "!=": lambda a, b: a != b, "<": lambda a, b: a < b, "<=": lambda a, b: a <= b}
    return all(ops[op](value(left, row), value(right, row)) for left, op, right in tests)


def agree(left, right, pairs):
    return all(left[i] == right[j] for i, j in pairs)


def grouped(counts, keys):
    groups = {}
    for row, count in counts.items():
        groups.setdefault(tuple(row[key] for key in keys), {})[row] = count
    return groups


def group_value(sort, counts):
    """The value of a group, or None if it does not appear."""
    if sort == ("count",):
        return sum(counts.values())
    if sort[0] == "sum":
        return sum(count * row[sort[1]] for row, count in counts.items())
    values = [row[sort[1]] for row, count in counts.items() if count > 0]
    return {"least": min, "greatest": max}[sort[0]](values) if values else None


def node_by_hand(node, bags):
    """What a node makes of the dicts of counts of its sub-plans."""
    kind, made = node[0], Counter()
    if kind in ("plus", "less"):
        for row in set(bags[0]) | set(bags[1]):
            made[row] = bags[0].get(row, 0) + (1 if kind == "plus" else -1) * bags[1].get(row, 0)
        return without_zeros(made)
    for row, count in bags[0].items():
        if kind == "choose" and passes(node[2], row):
            made[row] += count
        elif kind == "map":
            made[tuple(value(term, row) for term in node[2])] += count
        elif kind == "join":
            for other, many in bags[1].items():
                if agree(row, other, node[3]):
                    made[row + other] += count * many
        elif kind == "distinct" and count > 0:
            made[row] = 1
        elif kind == "without":
            if not any(many > 0 and agree(row, other, node[3]) for other, many in bags[1].items()):
                made[row] += count
    if kind == "group":
        for key, counts in grouped(bags[0], node[2]).items():
            told = group_value(node[3], counts)
            if told is not None:
                made[key + (told,)] = 1
    if kind == "top":
        for counts in grouped(bags[0], node[2]).values():
            many = node[3]
            for row in sorted(row for row in counts if counts[row] > 0):
                made[row] = max(0, min(many, counts[row]))
                many -= made[row]
    return without_zeros(made)


def below(node):
    """The sub-plans of a node."""
    return {"table": (), "join": node[1:3], "without": node[1:3], "plus": node[1:], "less": node[1:],
            "loop": node[2:]}.get(node[0], node[1:2])


def rounds_by_hand(plan, tables):
    name, start, step = plan[1:]
    found = [{}]
    while True:
        first = plan_by_hand(start, tables)
        then = plan_by_hand(step, dict(tables, **{name: found[-1]}))
        told = node_by_hand(("plus", start, step), [first, then])
        grown = {row: 1 for row in set(found[-1]) | {row for row in told if told[row] > 0}}
        if grown == found[-1]:
            return found
        found.append(grown)


def plan_by_hand(plan, tables):
    if plan[0] == "table":
        return tables.get(plan[1], {})
    if plan[0] == "loop":
        return rounds_by_hand(plan, tables)[-1]
    return node_by_hand(plan, [plan_by_hand(sub, tables) for sub in below(plan)])


def dict_of(bag):
    return dict(bag.pairs())


def dicts_of(tables):
    return {name: dict_of(bag) for name, bag in tables.items()}


def bag_of(counts):
    return Bag(list(counts.items()))
