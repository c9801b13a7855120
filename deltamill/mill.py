"""A mill runs several plans over common tables."""

from deltamill.checks import is_number
from deltamill.errors import BadAxes, BadCount, NoOutput, NotAdvanced, StillOpen, TooLate
from deltamill.fronts import Front
from deltamill.histories import History, check_moment
from deltamill.outputs import Output
from deltamill.plans import width_of
from deltamill.stocks import check_row, check_table

MOST_MILL_AXES = 3


def check_open(moments, front):
    """Raise NotAdvanced for the first of the moments that is not open in the front."""
    for moment in moments:
        if moment not in front:
            raise NotAdvanced(moment)


def listed(told):
    """The list of the changes of all outputs, for a dict from outputs, in their order, to lists of changes."""
    return [(output,) + change for output in told for change in told[output]]


class Mill:
    """Plans over common tables: their machines, their outputs and the fronts of the tables."""

    def __init__(self, axes, widths, plans):
        if not is_number(axes) or not 1 <= axes <= MOST_MILL_AXES:
            raise BadAxes(axes)
        for output in sorted(plans):
            width_of(plans[output], widths)
        self.axes = axes
        self._widths = dict(widths)
        self._plans = dict(plans)
        self._fronts = {name: Front.everything(axes) for name in widths}
        self._outputs = {output: Output(plans[output], axes) for output in sorted(plans)}

    def tell(self, news):
        """Add changes of tables; return the list of what the outputs hand on."""
        entries = list(news)
        for name, moment, row, count in entries:
            self._check_entry(name, moment, row, count)
        changes = {}
        for name, moment, row, count in entries:
            changes.setdefault(name, []).append((moment, row, count))
        histories = {name: History(self.axes, changes[name]) for name in changes}
        told = {output: self._outputs[output].tell(histories).changes() for output in self._outputs}
        return listed(told)

    def _check_entry(self, name, moment, row, count):
        """Raise an error unless the change can be told."""
        check_table(name, self._widths)
        check_moment(moment, self.axes)
        check_row(row, self._widths[name])
        if not is_number(count):
            raise BadCount(count)
        if moment not in self._fronts[name]:
            raise TooLate(moment)

    def close(self, moments, *names):
        """Set the fronts of tables; return the list of the changes of the outputs that have become final."""
        front = Front(self.axes, moments)
        for name in names:
            check_table(name, self._widths)
        closed = sorted(set(names)) if names else sorted(self._widths)
        for name in closed:
            check_open(front.moments(), self._fronts[name])
        for name in closed:
            self._fronts[name] = front
        told = {output: self._outputs[output].close(self._fronts) for output in self._outputs}
        return listed(told)

    def forget(self, moments, *outputs):
        """Set from when on outputs may be asked."""
        since = Front(self.axes, moments)
        for output in outputs:
            self._check_output(output)
        forgetful = sorted(set(outputs)) if outputs else list(self._outputs)
        for output in forgetful:
            check_open(since.moments(), self._outputs[output].since)
            for moment in self._outputs[output].front.moments():
                if moment not in since:
                    raise StillOpen(moment)
        for output in forgetful:
            self._outputs[output].forget(since)

    def _check_output(self, output):
        """Raise NoOutput unless the mill has the output."""
        if not isinstance(output, str) or output not in self._outputs:
            raise NoOutput(output)

    def table_front(self, name):
        """The front of the table."""
        check_table(name, self._widths)
        return Front(self.axes, self._fronts[name].moments())

    def output_front(self, output):
        """The front of the output."""
        self._check_output(output)
        return Front(self.axes, self._outputs[output].front.moments())

    def output_since(self, output):
        """The front of the moments at which the output may be asked once they are closed."""
        self._check_output(output)
        return Front(self.axes, self._outputs[output].since.moments())

    def answer(self, output, moment):
        """The bag of the output at the moment."""
        self._check_output(output)
        check_moment(moment, self.axes)
        return self._outputs[output].at(moment)

    def memory(self, output, path, side):
        """The memory of a side of the machine of a part of the output's plan."""
        self._check_output(output)
        return self._outputs[output].net.machine_at(path).memory(side)

    def twin(self):
        """Another mill in the same state."""
        made = Mill(self.axes, self._widths, self._plans)
        made._fronts = dict(self._fronts)
        made._outputs = {output: self._outputs[output].twin() for output in self._outputs}
        return made

    @property
    def kept(self):
        """The number of changes in the memories of all machines and in the outputs' histories."""
        return sum([self._outputs[output].kept for output in self._outputs])
