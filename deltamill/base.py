"""The class of all machines: their sides, the fronts of these, and what the machines remember."""

from deltamill.checks import check_like_axes, is_number
from deltamill.errors import NoSide, NotAdvanced, TooLate
from deltamill.fronts import Front
from deltamill.histories import History


class Machine:
    """One part of a plan: it reads changes on its sides and hands on changes. Each kind of part has a class below."""

    def __init__(self, axes, watchers):
        """`watchers` has for each side the sides that watch it."""
        self.axes = axes
        self.sides = len(watchers)
        self._watchers = [list(watching) for watching in watchers]
        self._fronts = [Front.everything(axes) for _ in watchers]
        self._memories = [History(axes) for _ in watchers]

    def take(self, side, news):
        """Add the news to the input of the side and return the history that is handed on."""
        self._check_side(side)
        check_like_axes(self.axes, news.axes)
        late = self._first_closed(side, news.moments())
        if late is not None:
            raise TooLate(late)
        told = self._told(side, news, self._met_by(side))
        self._memories[side] = self._memories[side] + self._remembered(side, news)
        return told

    def close(self, side, front):
        """Set the front of the side."""
        self._check_side(side)
        check_like_axes(self.axes, front.axes)
        early = self._first_closed(side, front.moments())
        if early is not None:
            raise NotAdvanced(early)
        self._fronts[side] = Front(self.axes, front.moments())
        self._memories = [self._remembered(place, memory) for place, memory in enumerate(self._memories)]

    def front_of(self, side):
        """The front that says at which moments news of the side may still come."""
        self._check_side(side)
        return Front(self.axes, self._fronts[side].moments())

    def memory(self, side):
        """What later news can still meet of the side."""
        self._check_side(side)
        # A sum is a history of its own.
        return self._memories[side] + History(self.axes)

    @property
    def kept(self):
        """The number of changes in the memories of all sides."""
        return sum([len(memory) for memory in self._memories])

    def become_like(self, other):
        """Take over the fronts and memories of another machine of the same part."""
        self._fronts = list(other._fronts)
        self._memories = list(other._memories)

    def _check_side(self, side):
        """Raise NoSide unless the machine has the side."""
        if not is_number(side) or not 0 <= side < self.sides:
            raise NoSide(side)

    def _first_closed(self, side, moments):
        """The first of the moments that is not open in the front of the side, or None."""
        closed = [moment for moment in moments if moment not in self._fronts[side]]
        return closed[0] if closed else None

    def _watching(self, side):
        """The front of all the moments at which news can still meet the side."""
        front = Front.nothing(self.axes)
        for watcher in self._watchers[side]:
            front = front | self._fronts[watcher]
        return front

    def _remembered(self, side, history):
        """What is remembered of a history that comes to the side."""
        front = self._watching(side)
        # Without an open moment all changes would fold to the first moment.
        return history.folded(front) if len(front) else History(self.axes)

    def _met_by(self, side):
        """For each side, what news of `side` meet there: its memory, or nothing."""
        return [memory if side in self._watchers[place] else History(self.axes)
                for place, memory in enumerate(self._memories)]

    def _told(self, side, news, met):
        """What is handed on for the news; `met` has for each side the history that they meet there."""
        raise NotImplementedError("each kind of machine says what it hands on")
