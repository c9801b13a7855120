"""The machines of all kinds of parts but loops."""

from deltamill.base import Machine
from deltamill.groups import steps_of_news
from deltamill.histories import history_of_tally
from deltamill.moments import join_of
from deltamill.tallies import tally_of
from deltamill.works import picked, work

# For each kind of node, the sides that watch each of its sides.
WATCHERS = {"choose": ((),), "map": ((),), "plus": ((), ()), "less": ((), ()), "join": ((1,), (0,)),
            "without": ((1,), (0, 1)), "distinct": ((0,),), "group": ((0,),), "top": ((0,),)}


def values_on_side(node, side, row):
    """The values of a row that tell which other rows it has to do with."""
    if node[0] == "distinct":
        return row
    if node[0] in ("join", "without"):
        return picked(row, [pair[side] for pair in node[3]])
    return picked(row, node[2])


class NodeMachine(Machine):
    """A part that is not a loop: its sides are its sub-plans."""

    def __init__(self, node, axes):
        Machine.__init__(self, axes, WATCHERS[node[0]])
        self._node = node


class StraightMachine(NodeMachine):
    """A choose, a map, a plus or a less: news meet nothing."""

    def _told(self, side, news, met):
        steps = {}
        for moment, row, count in news.changes():
            steps.setdefault(moment, []).append((row, count))
        told = {}
        for moment in steps:
            tallies = [{} for _ in range(self.sides)]
            tallies[side] = tally_of(steps[moment])
            told[moment] = work(self._node, tallies)
        return history_of_tally(self.axes, {(at, row): told[at][row] for at in told for row in told[at]})


class JoinMachine(NodeMachine):
    """A join: each change of the news meets each change of the other side that agrees in all pairs."""

    def _told(self, side, news, met):
        other = 1 - side
        matches = {}
        for change in met[other].changes():
            matches.setdefault(values_on_side(self._node, other, change[1]), []).append(change)
        told = []
        for moment, row, count in news.changes():
            for at, match, many in matches.get(values_on_side(self._node, side, row), []):
                joined = row + match if side == 0 else match + row
                told.append(((join_of(moment, at), joined), count * many))
        return history_of_tally(self.axes, tally_of(told))


class GroupingMachine(NodeMachine):
    """A distinct, a without, a group or a top: each group of rows makes its part of the answer by itself."""

    def _told(self, side, news, met):
        groups = {}
        for moment, row, count in news.changes():
            groups.setdefault(values_on_side(self._node, side, row), []).append((moment, side, row, count, True))
        for place, history in enumerate(met):
            for moment, row, count in history.changes():
                values = values_on_side(self._node, place, row)
                if values in groups:
                    groups[values].append((moment, place, row, count, False))
        told = [step for values in groups for step in steps_of_news(self._node, self.sides, groups[values])]
        return history_of_tally(self.axes, tally_of(told))
