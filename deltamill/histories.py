"""Histories: changes of rows, each at a moment, and the answers that they add up to."""

from deltamill.bags import bag_of_tally, check_counted
from deltamill.checks import check_axes, check_like_axes, is_number
from deltamill.errors import BadMoment, DoubleMoment
from deltamill.moments import before, is_moment, join_of
from deltamill.tallies import plus, tally_of, times


def check_moment(moment, axes):
    """Raise BadMoment unless this is a moment with so many axes."""
    if not is_moment(moment, axes):
        raise BadMoment(moment)


def history_of_tally(axes, counts):
    """The history of a dict from pairs of a moment and a row to counts that are not 0, which nothing changes later."""
    made = History(axes)
    made._counts = counts
    return made


def upward(moments):
    """The steps of what is 1 at every moment with one of these before it, and 0 at all others: a tally."""
    steps = {}
    for moment in moments:
        # Where `moment` and an earlier one are both before, the sum so far is 1 already, so `moment` adds nothing.
        twice = tally_of([(join_of(earlier, moment), -steps[earlier]) for earlier in steps])
        steps = plus(plus(steps, {moment: 1}), twice)
    return steps


def steps_of_answers(answers):
    """The tally of each moment's step, for a dict from moments to bags: each bag less all steps strictly before it."""
    steps = {}
    for moment in sorted(answers):
        earlier = [steps[at] for at in steps if before(at, moment)]
        told = [(row, -step[row]) for step in earlier for row in step]
        steps[moment] = tally_of(answers[moment].pairs() + told)
    return steps


class History:
    """Changes with the same moment and row are one change; its count is their sum."""

    def __init__(self, axes, changes=()):
        check_axes(axes)
        counted = []
        for moment, row, count in changes:
            check_moment(moment, axes)
            check_counted(row, count)
            counted.append(((moment, row), count))
        self.axes = axes
        self._counts = tally_of(counted)

    @staticmethod
    def of_answers(axes, answers):
        """The only history with changes at these moments alone whose answers there are the given bags."""
        check_axes(axes)
        bags = {}
        for moment, bag in answers:
            check_moment(moment, axes)
            if moment in bags:
                raise DoubleMoment(moment)
            bags[moment] = bag
        steps = steps_of_answers(bags)
        return history_of_tally(axes, {(at, row): steps[at][row] for at in steps for row in steps[at]})

    def changes(self):
        """The ascending list of the changes."""
        return [(moment, row, self._counts[(moment, row)]) for moment, row in sorted(self._counts)]

    def moments(self):
        """The ascending list of the moments of the changes."""
        return sorted({moment for moment, _ in self._counts})

    def at(self, moment):
        """The answer at the moment: the bag of all changes before it."""
        check_moment(moment, self.axes)
        return self._sum_of([at for at in self.moments() if before(at, moment)])

    def step(self, moment):
        """The bag of the changes at exactly this moment."""
        check_moment(moment, self.axes)
        return self._sum_of([moment])

    def _sum_of(self, moments):
        """The bag of the changes at these moments."""
        wanted = {moment: True for moment in moments}
        return bag_of_tally(tally_of([(row, self._counts[(at, row)]) for at, row in self._counts if at in wanted]))

    def folded(self, front):
        """The history with each moment replaced by its fold."""
        check_like_axes(self.axes, front.axes)
        folds = {moment: front.fold(moment) for moment in self.moments()}
        told = [((folds[at], row), self._counts[(at, row)]) for at, row in self._counts]
        return history_of_tally(self.axes, tally_of(told))

    def seen(self, front):
        """The only history with changes at open moments alone and the same answers at all open moments."""
        check_like_axes(self.axes, front.axes)
        lows = front.moments()
        # An open moment has `moment` before it exactly if it has one of these joins before it.
        felt = {moment: upward([join_of(moment, low) for low in lows]) for moment in self.moments()}
        told = [((at, row), felt[moment][at] * self._counts[(moment, row)])
                for moment, row in self._counts for at in felt[moment]]
        return history_of_tally(self.axes, tally_of(told))

    def __len__(self):
        return len(self._counts)

    def __eq__(self, other):
        return isinstance(other, History) and self.axes == other.axes and self._counts == other._counts

    def __add__(self, other):
        if not isinstance(other, History):
            return NotImplemented
        check_like_axes(self.axes, other.axes)
        return history_of_tally(self.axes, plus(self._counts, other._counts))

    def __sub__(self, other):
        if not isinstance(other, History):
            return NotImplemented
        check_like_axes(self.axes, other.axes)
        return history_of_tally(self.axes, plus(self._counts, times(other._counts, -1)))

    def __neg__(self):
        return history_of_tally(self.axes, times(self._counts, -1))

    def __mul__(self, other):
        if not is_number(other):
            return NotImplemented
        return history_of_tally(self.axes, times(self._counts, other))

    def __rmul__(self, other):
        if not is_number(other):
            return NotImplemented
        return self * other


def first_difference(first, second, front):
    """The least open moment with different answers, and the least row that differs there; or None."""
    # These two raise UnlikeAxes, the difference first.
    felt = (first - second).seen(front).changes()
    # No other moment of these changes is before the least one, so the answers differ there by exactly its step.
    if not felt:
        return None
    moment, row, _ = felt[0]
    return (moment, row)
