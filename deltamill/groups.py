"""How news change what a node makes of a group of rows that has nothing to do with other groups.

The changes of a group are tuples of a moment, a side, a row, a count and whether the change is news.
"""

from deltamill.moments import join_of, meet_of
from deltamill.spots import corners_of, spots_of
from deltamill.tallies import plus, tally_of, times
from deltamill.works import work


def meet_of_all(moments):
    """The meet of a list of at least one moment."""
    meet = moments[0]
    for moment in moments[1:]:
        meet = meet_of(meet, moment)
    return meet


def has_news(changes):
    """Whether one of the changes is news."""
    return any([change[4] for change in changes])


def by_moments(changes):
    """The changes grouped by moments: a dict from moments to lists of changes.

    News change nothing but behind the meet of their moments, so each change stands at the join with the meet.
    """
    first = meet_of_all([change[0] for change in changes if change[4]])
    found = {}
    for change in changes:
        found.setdefault(join_of(change[0], first), []).append(change)
    return found


def made_of(node, sides, changes):
    """What the node makes of these changes together: a tally of rows."""
    counted = [[] for _ in range(sides)]
    for _, side, row, count, _ in changes:
        counted[side].append((row, count))
    return work(node, [tally_of(pairs) for pairs in counted])


def made_by_news(node, sides, changes):
    """What the node makes of these changes less what it makes of them without the news."""
    if not has_news(changes):
        return {}
    old = [change for change in changes if not change[4]]
    return plus(made_of(node, sides, changes), times(made_of(node, sides, old), -1))


def steps_of_news(node, sides, changes):
    """The list of pairs, of a moment and a row and of a count, by which the news change what the node makes."""
    found = by_moments(changes)
    moments = list(found)
    fresh = sum([1 << index for index, at in enumerate(moments) if has_news(found[at])])
    made = {}
    steps = []
    for moment, upto, belows in spots_of(moments, fresh):
        corners = corners_of(upto, belows)
        for before, _ in corners:
            if before not in made:
                met = [change for index, at in enumerate(moments) if before >> index & 1 for change in found[at]]
                made[before] = made_by_news(node, sides, met)
        step = tally_of([(row, sign * made[before][row]) for before, sign in corners for row in made[before]])
        steps.extend([((moment, row), step[row]) for row in step])
    return steps
