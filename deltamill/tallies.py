"""Tallies: dicts from keys to counts that are not 0. Each function makes a new one."""


def without_zeros(counts):
    """The counts that are not 0."""
    return {key: counts[key] for key in counts if counts[key] != 0}


def times(counts, factor):
    """Every count multiplied by the factor."""
    return without_zeros({key: counts[key] * factor for key in counts})


def plus(first, second):
    """The sums of the counts of each key."""
    made = {key: first[key] for key in first}
    for key in second:
        made[key] = made.get(key, 0) + second[key]
    return without_zeros(made)


def lesser(first, second):
    """The lesser count of each key, where a key that is missing has the count 0."""
    keys = list(first) + list(second)
    return without_zeros({key: min(first.get(key, 0), second.get(key, 0)) for key in keys})


def greater(first, second):
    """The greater count of each key, where a key that is missing has the count 0."""
    keys = list(first) + list(second)
    return without_zeros({key: max(first.get(key, 0), second.get(key, 0)) for key in keys})


def tally_of(pairs):
    """The sums of the counts of equal keys in a list of pairs of a key and a count."""
    made = {}
    for key, count in pairs:
        made[key] = made.get(key, 0) + count
    return without_zeros(made)
