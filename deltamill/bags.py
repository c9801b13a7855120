"""Bags: rows with integer counts, which may be negative."""

from deltamill.checks import is_number
from deltamill.errors import BadCount, BadRow
from deltamill.tallies import greater, lesser, plus, tally_of, times


def is_row(value):
    """Whether the value is a row: a tuple of integers."""
    return isinstance(value, tuple) and all([is_number(column) for column in value])


def check_counted(row, count):
    """Raise BadRow or BadCount unless these are a row and a count; the row is looked at first."""
    if not is_row(row):
        raise BadRow(row)
    if not is_number(count):
        raise BadCount(count)


def bag_of_tally(counts):
    """The bag of a dict from rows to counts that are not 0, which nothing else changes later."""
    made = Bag()
    made._counts = counts
    return made


def tally_in(bag):
    """A dict of its own from the rows in the bag to their counts."""
    return {row: bag._counts[row] for row in bag._counts}


class Bag:
    """Each row has a count; a row is in the bag if its count is not 0."""

    def __init__(self, pairs=()):
        counted = []
        for row, count in pairs:
            check_counted(row, count)
            counted.append((row, count))
        self._counts = tally_of(counted)

    @staticmethod
    def of(*rows):
        """The bag that counts each row once each time it is listed."""
        return Bag([(row, 1) for row in rows])

    def pairs(self):
        """The ascending list of the pairs of a row in the bag and its count."""
        return sorted(self._counts.items())

    def support(self):
        """The bag with the count 1 for each row with a positive count."""
        return bag_of_tally({row: 1 for row in self._counts if self._counts[row] > 0})

    @property
    def total(self):
        """The sum of the counts."""
        return sum(self._counts.values())

    @property
    def is_plain(self):
        """Whether no count is negative."""
        return all([count >= 0 for count in self._counts.values()])

    # What is no row has the count 0 and is not looked up: True and 1 would be the same key.
    def __getitem__(self, at):
        return self._counts.get(at, 0) if is_row(at) else 0

    def __iter__(self):
        raise TypeError("a bag is not iterated over: take its pairs()")

    def __contains__(self, x):
        return is_row(x) and x in self._counts

    def __len__(self):
        return len(self._counts)

    def __eq__(self, other):
        return isinstance(other, Bag) and self._counts == other._counts

    def __add__(self, other):
        if not isinstance(other, Bag):
            return NotImplemented
        return bag_of_tally(plus(self._counts, other._counts))

    def __sub__(self, other):
        if not isinstance(other, Bag):
            return NotImplemented
        return bag_of_tally(plus(self._counts, times(other._counts, -1)))

    def __neg__(self):
        return bag_of_tally(times(self._counts, -1))

    def __mul__(self, other):
        if not is_number(other):
            return NotImplemented
        return bag_of_tally(times(self._counts, other))

    def __rmul__(self, other):
        if not is_number(other):
            return NotImplemented
        return self * other

    def __and__(self, other):
        if not isinstance(other, Bag):
            return NotImplemented
        return bag_of_tally(lesser(self._counts, other._counts))

    def __or__(self, other):
        if not isinstance(other, Bag):
            return NotImplemented
        return bag_of_tally(greater(self._counts, other._counts))

    def __abs__(self):
        return bag_of_tally({row: abs(self._counts[row]) for row in self._counts})
