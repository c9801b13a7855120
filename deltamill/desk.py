"""A desk drives a mill by lines of text and takes them back."""

from deltamill.checks import is_number
from deltamill.errors import BadDepth, MillError, NothingToRedo, NothingToUndo, Refused
from deltamill.lines import read_line, show_bag, show_changes
from deltamill.mill import Mill


def last_ones(items, many):
    """The list of at most so many last items."""
    return items[max(0, len(items) - many):]


class Desk:
    """A mill, and the mills that undo and redo lead to. None of these mills is changed any more: a twin is."""

    MOST = 100

    def __init__(self, axes, widths, plans, *, keep=20):
        self._mill = Mill(axes, widths, plans)
        self._check_depth(keep)
        self._depth = keep
        # The last mill of each list is the next one.
        self._before = []
        self._behind = []
        self._lines = []

    def _check_depth(self, value):
        """Raise BadDepth unless this is a depth."""
        if not is_number(value) or not 0 <= value <= Desk.MOST:
            raise BadDepth(value)

    @property
    def depth(self):
        """How many lines can be taken back one after the other."""
        return self._depth

    @depth.setter
    def depth(self, value):
        self.change_depth(value)

    def change_depth(self, value):
        """Set the depth; the oldest lines that are too many can no longer be taken back."""
        self._check_depth(value)
        self._depth = value
        self._before = last_ones(self._before, value)

    def run(self, line):
        """Run a line and return the reply."""
        return self._replied(line)[0]

    def log(self):
        """The list of the pairs of all lines so far and their replies."""
        return list(self._lines)

    def attempt(self, lines):
        """Run all lines and return the list of the replies; if one is refused, run none."""
        mill, before, behind, lines_before = self._mill, self._before, self._behind, self.log()
        replies = []
        for index, line in enumerate(lines):
            reply, is_refused = self._replied(line)
            if is_refused:
                self._mill, self._before, self._behind, self._lines = mill, before, behind, lines_before
                raise Refused(index, reply)
            replies.append(reply)
        return replies

    def _replied(self, line):
        """Run a line; return a pair of the reply and whether the line was refused."""
        is_refused = False
        try:
            reply = self._done(read_line(line))
        except MillError as error:
            reply = "refused " + error.class_word()
            is_refused = True
        self._lines.append((line, reply))
        return (reply, is_refused)

    def _done(self, words):
        """Do what a line that was read says; return the reply."""
        first = words[0]
        if first == "undo":
            return self._undone()
        if first == "redo":
            return self._redone()
        if first == "ask":
            return show_bag(self._mill.answer(words[1], words[2]))
        mill = self._mill.twin()
        reply = self._changed(mill, words)
        self._go_to(mill)
        self._behind = []
        return reply

    def _changed(self, mill, words):
        """Let the mill do what a tell, a close or a forget says; return the reply."""
        if words[0] == "tell":
            _, name, row, count, moment = words
            return show_changes(mill.tell([(name, moment, row, count)]))
        first, moments, names = words
        if first == "close":
            return show_changes(mill.close(moments, *names))
        mill.forget(moments, *names)
        return "ok"

    def _go_to(self, mill):
        """Make this the desk's mill; the one before can be taken back to."""
        self._before = last_ones(self._before + [self._mill], self._depth)
        self._mill = mill

    def _undone(self):
        """Take back the last line that can be; return the reply."""
        if not self._before:
            raise NothingToUndo()
        self._behind = self._behind + [self._mill]
        self._mill = self._before[-1]
        self._before = self._before[:-1]
        return "ok"

    def _redone(self):
        """Do again the line that was taken back last; return the reply."""
        if not self._behind:
            raise NothingToRedo()
        self._go_to(self._behind[-1])
        self._behind = self._behind[:-1]
        return "ok"


def first_wrong(axes, widths, plans, log, *, keep=20):
    """The index of the first pair of a line and a reply whose reply a new desk does not give, or None."""
    desk = Desk(axes, widths, plans, keep=keep)
    for index, (line, reply) in enumerate(log):
        if desk.run(line) != reply:
            return index
    return None
