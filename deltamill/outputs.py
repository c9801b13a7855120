"""One output of a mill: the machines of its plan, its fronts, and what it keeps of its history."""

from deltamill.errors import Forgotten, StillOpen
from deltamill.fronts import Front
from deltamill.histories import History
from deltamill.machines import Net, front_of_tables
from deltamill.plans import tables_of


class Output:
    """A plan over common tables. Its front is the union of those of its free tables."""

    def __init__(self, plan, axes):
        self.axes = axes
        self.front = Front.everything(axes)
        self.since = Front.everything(axes)
        self.net = Net(plan, axes)
        self._plan = plan
        # The changes that are final, folded by `since`, and those at moments that are open in the front.
        self._final = History(axes)
        self._pending = History(axes)

    def tell(self, news):
        """Take news of tables, a dict from names to histories; return the change of the output's history."""
        told = self.net.feed(news)
        self._pending = self._pending + told
        return told

    def close(self, fronts):
        """Take over the fronts of the tables; return the list of the changes that have become final."""
        self.net.close(fronts)
        self.front = front_of_tables(tables_of(self._plan), fronts, self.axes)
        changes = self._pending.changes()
        final = [change for change in changes if change[0] not in self.front]
        self._pending = History(self.axes, [change for change in changes if change[0] in self.front])
        self._final = self._final + self._worth_keeping(History(self.axes, final))
        return final

    def forget(self, since):
        """Forget what no moment that is open in the front `since` tells."""
        self.since = since
        self._final = self._worth_keeping(self._final)

    def _worth_keeping(self, history):
        """What is kept of a history of final changes."""
        # Without a moment that may be asked, all changes would fold to the first moment.
        return history.folded(self.since) if len(self.since) else History(self.axes)

    def at(self, moment):
        """The bag of the output at the moment."""
        if moment in self.front:
            raise StillOpen(moment)
        if moment not in self.since:
            raise Forgotten(moment)
        return self._final.at(moment)

    def twin(self):
        """Another output in the same state."""
        made = Output(self._plan, self.axes)
        made.front = self.front
        made.since = self.since
        made.net = self.net.twin()
        made._final = self._final
        made._pending = self._pending
        return made

    @property
    def kept(self):
        """The number of changes in the memories of all machines and in the history as it is folded by `since`."""
        return self.net.kept + len(self._final + self._pending)
