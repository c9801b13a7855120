"""What a plan answers in each sighting, whatever offers are added, and where that cannot fit."""

from deltamill.bags import Bag
from deltamill.plain import answer


class Outlook:
    """A monotone plan, sightings and offers. Offers are told by their indexes; answers are worked out once."""

    def __init__(self, plan, sightings, offers):
        self.offers = list(offers)
        self.sightings = list(sightings)
        self._plan = plan
        self._answers = {}

    def clash(self, inside, undecided):
        """The least pair of an index of a sighting and a row that clashes in it, or None.

        `inside` and `undecided` are lists of indexes of offers.
        """
        for index in range(len(self.sightings)):
            rows = [row for row in self._rows(index, inside, undecided)
                    if self.clashes(index, row, inside, undecided)]
            if rows:
                return (index, min(rows))
        return None

    def clashes(self, index, row, inside, undecided):
        """Whether the row clashes in the sighting."""
        low, high = self._bounds(index, row)
        if low is not None and self._ceiling(index, inside, undecided)[row] < low:
            return True
        return high is not None and self._floor(index, inside, undecided)[row] > high

    def always_fits(self, inside, undecided):
        """Whether all lists with the offers inside, and with any of those that are not decided, fit."""
        return all([self._row_fits(index, row, inside, undecided) for index in range(len(self.sightings))
                    for row in self._rows(index, inside, undecided)])

    def _row_fits(self, index, row, inside, undecided):
        """Whether the count of the row, which has bounds, fits whatever is decided."""
        low, high = self._bounds(index, row)
        if self._floor(index, inside, undecided)[row] < low:
            return False
        return high is None or self._ceiling(index, inside, undecided)[row] <= high

    def _bounds(self, index, row):
        """The bounds of the row's count in the sighting, None for none."""
        _, wishes, rest = self.sightings[index]
        for wished, low, high in wishes:
            if wished == row:
                return (low, high)
        return (None, None) if rest else (0, 0)

    def _rows(self, index, inside, undecided):
        """The rows of the sighting that have bounds and, if all rows have, those that can be in the bag."""
        _, wishes, rest = self.sightings[index]
        rows = [row for row, _, _ in wishes]
        if not rest:
            rows = rows + [row for row, _ in self._ceiling(index, inside, undecided).pairs()]
        return rows

    def _floor(self, index, inside, undecided):
        """The bag of the sighting that no list of offers goes below."""
        return self._answer(index, inside + [at for at in undecided if self.offers[at][2] < 0])

    def _ceiling(self, index, inside, undecided):
        """The bag of the sighting that no list of offers goes beyond."""
        return self._answer(index, inside + [at for at in undecided if self.offers[at][2] > 0])

    def _answer(self, index, chosen):
        """The answer in the sighting with the chosen offers added."""
        key = (index, tuple(sorted(chosen)))
        if key not in self._answers:
            tables = dict(self.sightings[index][0])
            for at in chosen:
                name, row, count = self.offers[at]
                tables[name] = tables.get(name, Bag()) + Bag([(row, count)])
            self._answers[key] = answer(self._plan, tables)
        return self._answers[key]
