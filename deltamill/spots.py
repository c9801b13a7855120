"""The moments at which news can change an answer.

Of a list of moments, each moment has a set before it. An answer changes only where that set changes, which is at
joins of moments of the list. Sets are numbers: the bit with the index of a moment says whether it is in the set.
"""


def levels_of(moments, axis):
    """The ascending list of triples of a coordinate on the axis and the sets of moments up to it and below it."""
    exactly = {}
    for index, moment in enumerate(moments):
        exactly[moment[axis]] = exactly.get(moment[axis], 0) + (1 << index)
    levels = []
    below = 0
    for coordinate in sorted(exactly):
        levels.append((coordinate, below + exactly[coordinate], below))
        below = below + exactly[coordinate]
    return levels


def corners_of(upto, belows):
    """The pairs of a set and a sign: which moments are before each corner, for the sets of those below on each axis.

    The sum of an answer over the signed corners is the answer's step.
    """
    corners = [(upto, 1)]
    for below in belows:
        corners = corners + [(part & below, -sign) for part, sign in corners]
    return corners


def is_join(upto, belows):
    """Whether the set of moments, on each axis, has more than the set of those below there."""
    return all([upto & below != upto for below in belows])


def spots_of(moments, fresh):
    """The joins of the moments with at least one moment of the set `fresh` before them.

    A list of triples of the join, the set of moments before it and the sets of those below it on each axis, for a list
    of at least one moment, all of them different.
    """
    spots = [((), (1 << len(moments)) - 1, ())]
    for axis in range(len(moments[0])):
        levels = levels_of(moments, axis)
        spots = [(start + (coordinate,), before & upto, belows + (below,))
                 for start, before, belows in spots for coordinate, upto, below in levels
                 if before & upto & fresh and is_join(before & upto, belows + (below,))]
    return spots
