"""What the document says of mills, written down once more: nothing is kept but what was told."""

import itertools

from by_hand import below, plan_by_hand
from deltamill.plans import tables_of

EVERYTHING = "everything"

# For each kind of node, the sides that watch each of its sides.
WATCHED_BY = {"join": [[1], [0]], "without": [[1], [0, 1]], "distinct": [[0]], "group": [[0]], "top": [[0]],
              "choose": [[]], "map": [[]], "plus": [[], []], "less": [[], []]}


def is_before(first, second):
    return all(one <= two for one, two in zip(first, second))


def is_open(moment, lows):
    return any(is_before(low, moment) for low in lows)


def minimal(moments):
    return sorted(low for low in set(moments) if not any(is_before(other, low) and other != low for other in moments))


def fold(moment, lows):
    joins = [[max(pair) for pair in zip(moment, low)] for low in lows]
    return tuple(min(coordinates) for coordinates in zip(*joins))


def history_by_hand(plan, told, axes):
    """The dict from pairs of a moment and a row to counts of the plan's history over what was told."""
    values = [sorted({entry[1][axis] for entry in told}) for axis in range(axes)]
    answers, made = {}, {}
    for place in itertools.product(*[range(len(some)) for some in values]):
        moment = tuple(some[at] for some, at in zip(values, place))
        tables = {}
        for name, at, row, count in told:
            if is_before(at, moment):
                counts = tables.setdefault(name, {})
                counts[row] = counts.get(row, 0) + count
        tables = {name: {row: count for row, count in counts.items() if count} for name, counts in tables.items()}
        answers[place] = plan_by_hand(plan, tables)
        for lowered in itertools.product((0, 1), repeat=axes):
            corner = tuple(at - by for at, by in zip(place, lowered))
            for row, count in answers.get(corner, {}).items():
                made[moment, row] = made.get((moment, row), 0) + (-1) ** sum(lowered) * count
    return {key: count for key, count in made.items() if count}


def folded(changes, lows):
    made = {}
    for (moment, row), count in changes.items():
        key = (fold(moment, lows), row)
        made[key] = made.get(key, 0) + count
    return {key: count for key, count in made.items() if count}


def machine_parts(plan, path=()):
    """Pairs of the path and the node of each part that has a machine."""
    if plan[0] != "table":
        yield path, plan
    if plan[0] not in ("table", "loop"):
        for at, sub in enumerate(below(plan)):
            yield from machine_parts(sub, path + (at,))


class Model:
    """A mill that works everything out anew."""

    def __init__(self, axes, widths, plans):
        self.axes, self.widths, self.plans = axes, widths, plans
        self.told = []
        self.fronts = {name: [(0,) * axes] for name in widths}
        self.since = {output: [(0,) * axes] for output in plans}

    def front_of(self, names):
        return minimal([low for name in names for low in self.fronts[name]])

    def output_front(self, output):
        return self.front_of(tables_of(self.plans[output]))

    def histories(self):
        return {output: history_by_hand(plan, self.told, self.axes) for output, plan in self.plans.items()}

    def tell(self, news):
        before = self.histories()
        self.told = self.told + list(news)
        changes = []
        for output, after in self.histories().items():
            for key in set(after) | set(before[output]):
                count = after.get(key, 0) - before[output].get(key, 0)
                if count:
                    changes.append((output, key[0], key[1], count))
        return sorted(changes)

    def close(self, moments, names):
        before = {output: self.output_front(output) for output in self.plans}
        for name in names:
            self.fronts[name] = minimal(moments)
        return sorted((output, moment, row, count) for output, history in self.histories().items()
                      for (moment, row), count in history.items()
                      if is_open(moment, before[output]) and not is_open(moment, self.output_front(output)))

    def answer(self, output, moment):
        made = {}
        for (at, row), count in self.histories()[output].items():
            if is_before(at, moment):
                made[row] = made.get(row, 0) + count
        return {row: count for row, count in made.items() if count}

    def memory(self, node, side):
        """The memory of a side of the machine of a node: a dict."""
        if node[0] == "loop":
            inputs = [("table", name) for name in tables_of(node)]
            watching = range(len(inputs))
        else:
            inputs = below(node)
            watching = WATCHED_BY[node[0]][side]
        lows = self.front_of([name for place in watching for name in tables_of(inputs[place])])
        return folded(history_by_hand(inputs[side], self.told, self.axes), lows) if lows else {}

    def memories(self):
        """Dicts by output, path and side."""
        return {(output, path, side): self.memory(node, side) for output, plan in self.plans.items()
                for path, node in machine_parts(plan)
                for side in range(len(tables_of(node) if node[0] == "loop" else below(node)))}

    def kept(self):
        histories = self.histories()
        return (sum(len(memory) for memory in self.memories().values())
                + sum(len(folded(histories[output], self.since[output])) for output in self.plans
                      if self.since[output]))
