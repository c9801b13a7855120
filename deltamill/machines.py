"""The machine of each part of a plan, the machines of a whole plan together, and the machine of a loop."""

from deltamill.base import Machine
from deltamill.errors import NoPart
from deltamill.forms import parts_below, subplans
from deltamill.fronts import Front
from deltamill.groups import meet_of_all
from deltamill.histories import History, history_of_tally
from deltamill.kinds import GroupingMachine, JoinMachine, StraightMachine
from deltamill.plans import part_at, tables_of


def machine_of(node, axes):
    """The machine of one part of a plan that is not a table; its sub-plans are looked at only in a loop."""
    if node[0] == "loop":
        return LoopMachine(node, axes)
    if node[0] == "join":
        return JoinMachine(node, axes)
    if node[0] in ("choose", "map", "plus", "less"):
        return StraightMachine(node, axes)
    return GroupingMachine(node, axes)


def machine_parts(node, path):
    """The list of the pairs of path and node of all parts that are not tables and lie in no loop below the node."""
    if node[0] == "table":
        return []
    found = [(path, node)]
    if node[0] != "loop":
        for place, sub in parts_below(path, node):
            found.extend(machine_parts(sub, place))
    return found


def tables_of_sides(node):
    """For each side of the machine of a node, the list of the names of the free tables that feed it."""
    if node[0] == "loop":
        return [[name] for name in tables_of(node)]
    return [tables_of(sub) for sub in subplans(node)]


def front_of_tables(names, fronts, axes):
    """The union of the fronts of these tables, for a dict from names to fronts."""
    front = Front.nothing(axes)
    for name in names:
        front = front | fronts[name]
    return front


class Net:
    """The machines of a plan, one for each part that is not a table and lies in no loop."""

    def __init__(self, plan, axes):
        self.axes = axes
        self.parts = machine_parts(plan, ())
        self._plan = plan
        self._machines = {path: machine_of(node, axes) for path, node in self.parts}

    def machine_at(self, path):
        """The machine of the part with the path."""
        part_at(self._plan, path)
        if path not in self._machines:
            raise NoPart(path)
        return self._machines[path]

    def close(self, fronts):
        """Close all sides as the fronts of the tables say, for a dict from names to fronts."""
        for path, node in self.parts:
            for side, names in enumerate(tables_of_sides(node)):
                self._machines[path].close(side, front_of_tables(names, fronts, self.axes))

    def twin(self):
        """Another net in the same state."""
        made = Net(self._plan, self.axes)
        for path, _ in self.parts:
            made._machines[path].become_like(self._machines[path])
        return made

    @property
    def kept(self):
        """The number of changes in the memories of all machines."""
        return sum([self._machines[path].kept for path, _ in self.parts])

    def feed(self, news):
        """Take news of tables, a dict from names to histories; return the change of the plan's answer."""
        return self._fed((), self._plan, news)

    def _fed(self, path, node, news):
        """The change of the answer of the node with the path."""
        if node[0] == "table":
            return news.get(node[1], History(self.axes))
        if node[0] == "loop":
            pieces = [news.get(name, History(self.axes)) for name in tables_of(node)]
        else:
            pieces = [self._fed(place, sub, news) for place, sub in parts_below(path, node)]
        told = History(self.axes)
        for side, piece in enumerate(pieces):
            if len(piece) > 0:
                told = told + self._machines[path].take(side, piece)
        return told


def growth(loop, axes, inputs):
    """What each round adds to a loop's bag: the list of the histories of X1 less X0, X2 less X1 and so on.

    `inputs` is a dict from the names of the loop's free tables to histories. The list ends before a round that adds
    nothing at any moment.
    """
    name, start, step = loop[1:]
    net = Net(("plus", start, step), axes)
    found_now = GroupingMachine(("distinct", loop), axes)
    found_ever = GroupingMachine(("distinct", loop), axes)
    told = net.feed(inputs)
    added = found_ever.take(0, found_now.take(0, told))
    rounds = []
    while len(added) > 0:
        rounds.append(added)
        told = net.feed({name: added})
        # A row stays once it is found, so what was found earlier counts as found again.
        added = found_ever.take(0, added + found_now.take(0, told))
    return rounds


class LoopMachine(Machine):
    """A loop with everything inside it. Its sides are its free tables."""

    def __init__(self, node, axes):
        self._names = tables_of(node)
        everyone = list(range(len(self._names)))
        Machine.__init__(self, axes, [everyone for _ in everyone])
        self._node = node

    def _told(self, side, news, met):
        if len(news) == 0:
            return History(self.axes)
        # News change nothing but behind the meet of their moments.
        front = Front(self.axes, [meet_of_all(news.moments())])
        before = [history.folded(front) for history in met]
        after = list(before)
        after[side] = before[side] + news
        return self._settled(after) - self._settled(before)

    def rounds(self):
        """The history of X0, X1 and so on, with the number of the round as one more axis."""
        front = self._watching(0)
        counts = {}
        for index, added in enumerate(self._growth(self._memories)):
            for moment, row, count in added.seen(front).changes():
                counts[(moment + (index + 1,), row)] = count
        return history_of_tally(self.axes + 1, counts)

    def _growth(self, inputs):
        """What each round adds for a list of the inputs of the sides."""
        return growth(self._node, self.axes, {name: history for name, history in zip(self._names, inputs)})

    def _settled(self, inputs):
        """The history of the loop's answers for a list of the inputs of the sides."""
        told = History(self.axes)
        for added in self._growth(inputs):
            told = told + added
        return told
