"""Moments: tuples of integers that are zero or more, partly ordered."""

from deltamill.checks import is_number


def is_moment(value, axes):
    """Whether the value is a moment with so many axes."""
    if not isinstance(value, tuple) or len(value) != axes:
        return False
    return all([is_number(coordinate) and coordinate >= 0 for coordinate in value])


def before(first, second):
    """Whether every coordinate of the first moment is at most that of the second one."""
    return all([low <= high for low, high in zip(first, second)])


def join_of(first, second):
    """The moment with the greater coordinate on each axis."""
    return tuple([max(left, right) for left, right in zip(first, second)])


def meet_of(first, second):
    """The moment with the lesser coordinate on each axis."""
    return tuple([min(left, right) for left, right in zip(first, second)])


def closure(moments):
    """The ascending list of the least set with these moments and the join of any two of its members."""
    closed = []
    for moment in moments:
        # What is closed so far stays closed with `moment` once each of its joins with `moment` is added.
        joins = [join_of(moment, other) for other in closed]
        closed = sorted(set(closed + joins + [moment]))
    return closed


def corners(moment):
    """The ascending list of the pairs of a corner of the moment and its sign."""
    found = [((), 1)]
    for coordinate in moment:
        choices = [(coordinate, 1)]
        if coordinate > 0:
            choices = [(coordinate - 1, -1), (coordinate, 1)]
        found = [(start + (last,), sign * turn) for start, sign in found for last, turn in choices]
    return found
