"""Branches: several lists of changes of common tables, merged as one likes."""

from deltamill.bags import Bag
from deltamill.errors import NoBranch
from deltamill.plain import answer
from deltamill.stocks import check_row, check_table


def sets_within(names):
    """All ascending lists of some of the names, which ascend; a list comes behind those that are within it."""
    found = [[]]
    for name in names:
        found = found + [some + [name] for some in found]
    return found


class Branches:
    """Base tables and, for each branch, changes of them."""

    def __init__(self, widths, tables, names):
        self._widths = dict(widths)
        self._base = {table: tables.get(table, Bag()) + Bag() for table in widths}
        self._changes = {branch: self._no_changes() for branch in names}

    def _no_changes(self):
        """For each table the empty bag."""
        return {table: Bag() for table in self._widths}

    def _check_branch(self, branch):
        """Raise NoBranch unless there is the branch."""
        if not isinstance(branch, str) or branch not in self._changes:
            raise NoBranch(branch)

    def put(self, branch, table, row, count):
        """Add a count to a row of a table on a branch."""
        self._check_branch(branch)
        check_table(table, self._widths)
        check_row(row, self._widths[table])
        # The bag raises BadCount.
        self._changes[branch][table] = self._changes[branch][table] + Bag([(row, count)])

    def drop(self, branch):
        """Remove all changes of a branch."""
        self._check_branch(branch)
        self._changes[branch] = self._no_changes()

    def merge(self, branch):
        """Add the changes of a branch to the base tables and remove them from the branch."""
        self._base = self.merged([branch])
        self.drop(branch)

    def merged(self, some):
        """The base tables with the changes of these branches: a dict."""
        for branch in some:
            self._check_branch(branch)
        made = {}
        for table in self._widths:
            made[table] = self._base[table] + Bag()
            for branch in sorted(set(some)):
                made[table] = made[table] + self._changes[branch][table]
        return made

    def answer(self, plan, some):
        """The plan's answer over the base tables with the changes of these branches."""
        return answer(plan, self.merged(some))

    def news(self, plan, some):
        """What these branches make only together: a bag."""
        for branch in some:
            self._check_branch(branch)
        branches = sorted(set(some))
        news = Bag()
        for within in sets_within(branches):
            lacking = len(branches) - len(within)
            sign = -1 if lacking & 1 else 1
            news = news + self.answer(plan, within) * sign
        return news

    def clashes(self):
        """The ascending list of triples of a table, a row and a least tuple of branches with a negative count of it."""
        found = {}
        for branches in sets_within(sorted(self._changes)):
            tables = self.merged(branches)
            for table in tables:
                for row, count in tables[table].pairs():
                    least = found.setdefault((table, row), [])
                    if count < 0 and not any([is_within(other, branches) for other in least]):
                        least.append(branches)
        return sorted([(table, row, tuple(branches)) for table, row in found for branches in found[(table, row)]])


def is_within(names, others):
    """Whether all of the names are among the others."""
    return all([name in others for name in names])
