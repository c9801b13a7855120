"""What each kind of node makes of the tallies of its sub-plans. A tally of rows has no count that is 0."""

from deltamill.tallies import plus, tally_of, times
from deltamill.terms import holds, values_of


def picked(row, columns):
    """The row of the values of these columns."""
    return tuple([row[column] for column in columns])


def by_values(rows, columns):
    """The rows grouped by their values in these columns: a dict from the values to lists of rows."""
    groups = {}
    for row in rows:
        groups.setdefault(picked(row, columns), []).append(row)
    return groups


def positive(counts):
    """The list of the rows with a positive count."""
    return [row for row in counts if counts[row] > 0]


def work_choose(node, counts):
    """The rows on which all tests hold."""
    return {row: counts[row] for row in counts if holds(node[2], row)}


def work_map(node, counts):
    """The rows of the values of the terms."""
    return tally_of([(values_of(node[2], row), counts[row]) for row in counts])


def work_join(node, left, right):
    """The left rows with each right row that agrees in all pairs behind them."""
    columns = [pair[0] for pair in node[3]]
    matches = by_values(right, [pair[1] for pair in node[3]])
    return tally_of([(row + match, left[row] * right[match])
                     for row in left for match in matches.get(picked(row, columns), [])])


def work_plus(_, left, right):
    """The sum."""
    return plus(left, right)


def work_less(_, left, right):
    """The difference."""
    return plus(left, times(right, -1))


def work_distinct(_, counts):
    """The rows with a positive count, once each."""
    return {row: 1 for row in positive(counts)}


def work_without(node, left, right):
    """The left rows with which no right row with a positive count agrees."""
    columns = [pair[0] for pair in node[3]]
    matches = by_values(positive(right), [pair[1] for pair in node[3]])
    return {row: left[row] for row in left if picked(row, columns) not in matches}


def value_of_group(sort, rows, counts):
    """The value of a group of rows."""
    word = sort[0]
    if word == "count":
        return sum([counts[row] for row in rows])
    column = sort[1]
    if word == "sum":
        return sum([counts[row] * row[column] for row in rows])
    values = [row[column] for row in rows]
    return min(values) if word == "least" else max(values)


def work_group(node, counts):
    """The key values of each group, followed by its value."""
    keys, sort = node[2:]
    rows = positive(counts) if sort[0] in ("least", "greatest") else list(counts)
    groups = by_values(rows, keys)
    return {values + (value_of_group(sort, groups[values], counts),): 1 for values in groups}


def work_top(node, counts):
    """The first copies of each group."""
    keys, many = node[2:]
    groups = by_values(sorted(positive(counts)), keys)
    made = {}
    for values in groups:
        missing = many
        for row in groups[values]:
            made[row] = min(counts[row], missing)
            missing = missing - made[row]
            if missing == 0:
                break
    return made


WORKS = {"choose": work_choose, "map": work_map, "join": work_join, "plus": work_plus, "less": work_less,
         "distinct": work_distinct, "without": work_without, "group": work_group, "top": work_top}


def work(node, tallies):
    """What a node that is no table and no loop makes of one tally for each sub-plan, which are not looked at."""
    finish = WORKS[node[0]]
    return finish(node, *tallies)
