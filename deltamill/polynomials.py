"""Polynomials over tokens, which are rows of tables."""

from deltamill.checks import is_number
from deltamill.tallies import plus, tally_of, times


def polynomial_of_tally(counts):
    """The polynomial of a dict from monomials to coefficients that are not 0, which nothing else changes later."""
    made = Polynomial()
    made._counts = counts
    return made


def monomial_times(first, second):
    """The product of two monomials."""
    powers = tally_of([((name, row), power) for name, row, power in first + second])
    return tuple([(name, row, powers[(name, row)]) for name, row in sorted(powers)])


def terms_times(first, second):
    """The product of two tallies of monomials."""
    return tally_of([(monomial_times(left, right), first[left] * second[right]) for left in first for right in second])


def times_count(start, count, power):
    """The number `start` multiplied by the count as often as the power says."""
    for _ in range(power):
        start = start * count
    return start


class Polynomial:
    """Each monomial has a coefficient; the terms are the monomials whose coefficients are not 0."""

    def __init__(self, terms=()):
        self._counts = tally_of(terms)

    @staticmethod
    def of_token(name, row):
        """The polynomial of one token."""
        return Polynomial([(((name, row, 1),), 1)])

    @staticmethod
    def of_number(number):
        """The constant."""
        return Polynomial([((), number)])

    def terms(self):
        """The list of the pairs of a monomial and its coefficient, in ascending order of the monomials."""
        return sorted(self._counts.items())

    def tokens(self):
        """The ascending list of the tokens that occur."""
        return sorted({(name, row) for monomial in self._counts for name, row, _ in monomial})

    @property
    def degree(self):
        """The greatest sum of the powers of a monomial, or -1 if there are no terms."""
        return max([sum([power for _, _, power in monomial]) for monomial in self._counts], default=-1)

    def value(self, tables):
        """The number that comes out if each token is the count of its row in its table."""
        total = 0
        for monomial in self._counts:
            product = self._counts[monomial]
            for name, row, power in monomial:
                count = tables[name][row] if name in tables else 0
                product = times_count(product, count, power)
            total = total + product
        return total

    def changed(self, name, row, by):
        """The polynomial whose value is that of this one over the tables with the count of the row greater by `by`."""
        return self._replaced((name, row), Polynomial.of_token(name, row) + Polynomial.of_number(by))

    def fixed(self, name, row, count):
        """The polynomial in which the token is the number `count`."""
        return self._replaced((name, row), Polynomial.of_number(count))

    def _replaced(self, token, other):
        """The polynomial in which another one stands for the token."""
        found = {}
        for monomial in self._counts:
            power = sum([many for name, row, many in monomial if (name, row) == token])
            rest = tuple([(name, row, many) for name, row, many in monomial if (name, row) != token])
            found.setdefault(power, []).append((rest, self._counts[monomial]))
        made = Polynomial()
        factor = Polynomial.of_number(1)
        for power in range(max(found, default=0) + 1):
            made = made + Polynomial(found.get(power, [])) * factor
            factor = factor * other
        return made

    def __len__(self):
        return len(self._counts)

    def __eq__(self, other):
        return isinstance(other, Polynomial) and self._counts == other._counts

    def __add__(self, other):
        if not isinstance(other, Polynomial):
            return NotImplemented
        return polynomial_of_tally(plus(self._counts, other._counts))

    def __sub__(self, other):
        if not isinstance(other, Polynomial):
            return NotImplemented
        return polynomial_of_tally(plus(self._counts, times(other._counts, -1)))

    def __neg__(self):
        return polynomial_of_tally(times(self._counts, -1))

    def __mul__(self, other):
        if isinstance(other, Polynomial):
            return polynomial_of_tally(terms_times(self._counts, other._counts))
        if not is_number(other):
            return NotImplemented
        return polynomial_of_tally(times(self._counts, other))

    def __rmul__(self, other):
        if not is_number(other):
            return NotImplemented
        return self * other

    def __pow__(self, other):
        if not is_number(other) or other < 0:
            return NotImplemented
        counts = {(): 1}
        for _ in range(other):
            counts = terms_times(counts, self._counts)
        return polynomial_of_tally(counts)
