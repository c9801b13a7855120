"""What a plan answers in each sighting, whatever offers are added, and where that cannot fit."""

from deltamill.bags import Bag
from deltamill.plain import answer


class Outlook:
    """A monotone plan, sightings and offers. Offers are told by their indexes; answers are worked out once.

    `inside` and `undecided` are lists of the indexes of the offers that are in and of those that are not decided.
    """

    def __init__(self, plan, sightings, offers):
        self.many = len(sightings)
        self._plan = plan
        self._offers = list(offers)
        self._tables = [tables for tables, _, _ in sightings]
        self._bounds = [{row: (low, high) for row, low, high in wishes} for _, wishes, _ in sightings]
        self._others = [(None, None) if rest else (0, 0) for _, _, rest in sightings]
        self._answers = {}

    def clash(self, inside, undecided):
        """The least pair of the index of a sighting and a row that clashes in it, or None."""
        for index in range(self.many):
            floor = self._floor(index, inside, undecided)
            ceiling = self._ceiling(index, inside, undecided)
            rows = [row for row in self._rows(index, ceiling) if self._is_beyond(index, row, floor, ceiling)]
            if rows:
                return (index, min(rows))
        return None

    def clashes(self, index, row, inside, undecided):
        """Whether the row clashes in the sighting."""
        floor = self._floor(index, inside, undecided)
        return self._is_beyond(index, row, floor, self._ceiling(index, inside, undecided))

    def always_fits(self, inside, undecided):
        """Whether all lists with the offers inside, and with any of those that are not decided, fit."""
        for index in range(self.many):
            floor = self._floor(index, inside, undecided)
            ceiling = self._ceiling(index, inside, undecided)
            # Where the floor and the ceiling change places, what is no clash fits for all bags in between.
            if any([self._is_beyond(index, row, ceiling, floor) for row in self._rows(index, ceiling)]):
                return False
        return True

    def _is_beyond(self, index, row, first, second):
        """Whether the row's count in the first bag is greater than its bound, or that in the second one less."""
        low, high = self._bounds[index].get(row, self._others[index])
        if low is not None and second[row] < low:
            return True
        return high is not None and first[row] > high

    def _rows(self, index, ceiling):
        """The rows of the sighting that have bounds, those that are in no bag left aside unless they are wished."""
        wished = list(self._bounds[index])
        if self._others[index] == (None, None):
            return wished
        return wished + [row for row, _ in ceiling.pairs()]

    def _floor(self, index, inside, undecided):
        """The bag of the sighting that no list of offers goes below."""
        return self._answer(index, inside + [at for at in undecided if self._offers[at][2] < 0])

    def _ceiling(self, index, inside, undecided):
        """The bag of the sighting that no list of offers goes beyond."""
        return self._answer(index, inside + [at for at in undecided if self._offers[at][2] > 0])

    def _answer(self, index, chosen):
        """The answer in the sighting with the chosen offers added."""
        key = (index, tuple(sorted(chosen)))
        if key not in self._answers:
            tables = dict(self._tables[index])
            for at in chosen:
                name, row, count = self._offers[at]
                tables[name] = tables.get(name, Bag()) + Bag([(row, count)])
            self._answers[key] = answer(self._plan, tables)
        return self._answers[key]
