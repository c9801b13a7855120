"""Fronts: which moments are still open, and what no open moment can tell."""

from deltamill.checks import check_axes, check_like_axes
from deltamill.errors import BadMoment
from deltamill.moments import before, is_moment, join_of, meet_of


def minimal(moments):
    """The ascending list of the moments with no other one of them before them."""
    found = []
    # A moment that is before another one is also less as a tuple, so it comes first here.
    for moment in sorted(set(moments)):
        if not any([before(low, moment) for low in found]):
            found.append(moment)
    return found


class Front:
    """The moments that have one of the given moments before them are open."""

    def __init__(self, axes, moments):
        check_axes(axes)
        given = list(moments)
        for moment in given:
            if not is_moment(moment, axes):
                raise BadMoment(moment)
        self.axes = axes
        self._lows = minimal(given)

    @classmethod
    def everything(cls, axes):
        """The front in which every moment is open."""
        check_axes(axes)
        return cls(axes, [(0,) * axes])

    @classmethod
    def nothing(cls, axes):
        """The front in which no moment is open."""
        return cls(axes, [])

    def moments(self):
        """The ascending list of the minimal moments."""
        return list(self._lows)

    def advances(self, other):
        """Whether every moment that is open here is open in the other front."""
        check_like_axes(self.axes, other.axes)
        return all([low in other for low in self._lows])

    def fold(self, moment):
        """The moment that stands for `moment` and for all that no open moment parts from it."""
        if not self._lows:
            return (0,) * self.axes
        folded = join_of(moment, self._lows[0])
        for low in self._lows[1:]:
            folded = meet_of(folded, join_of(moment, low))
        return folded

    def parting(self, first, second):
        """The least open moment with exactly one of the two before it, or None."""
        joins = [join_of(moment, low) for moment in (first, second) for low in self._lows]
        return min([at for at in joins if before(first, at) != before(second, at)], default=None)

    def __contains__(self, x):
        return is_moment(x, self.axes) and any([before(low, x) for low in self._lows])

    def __len__(self):
        return len(self._lows)

    def __eq__(self, other):
        return isinstance(other, Front) and self.axes == other.axes and self._lows == other._lows

    def __and__(self, other):
        if not isinstance(other, Front):
            return NotImplemented
        check_like_axes(self.axes, other.axes)
        return Front(self.axes, [join_of(left, right) for left in self._lows for right in other._lows])

    def __or__(self, other):
        if not isinstance(other, Front):
            return NotImplemented
        check_like_axes(self.axes, other.axes)
        return Front(self.axes, self._lows + other._lows)
