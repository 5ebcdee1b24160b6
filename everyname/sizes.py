"""Sizes: polynomials in n whose value is an integer at every integer n."""

from math import factorial

from everyname.checks import check_from, check_whole, check_wholes, is_whole
from everyname.errors import BadValue, NotExact
from everyname.rows import (row_ahead, row_product, row_signs, row_sum, row_through, row_times, row_value,
                             signs_between, trimmed)


def row_of(value):
    """Return the row of a size or an integer, and None for anything else."""
    if isinstance(value, Size):
        return value.row
    if is_whole(value):
        return (value,)
    return None


def row_less(row, other):
    """Return the row of the difference."""
    return row_sum(row, row_times(other, -1))


def signs_of_less(row, other):
    """Return the signs that the difference has at n that are 0 or greater."""
    return [sign for low, high, sign in row_signs(row_less(row, other), 0)]


class Size:
    """A polynomial in n; its attribute row is (c0, c1, ..) for c0 * C(n, 0) + c1 * C(n, 1) + .."""

    def __init__(self, row=()):
        check_wholes(row)
        self.row = trimmed(row)

    @classmethod
    def through(cls, start, values):
        """Return the size of least degree that has the value values[k] at start + k, for each k."""
        check_whole(start)
        check_wholes(values)
        return cls(row_ahead(row_through(values), -start))

    @staticmethod
    def falling(many, start=0):
        """Return (n - start) * (n - start - 1) * .., with many factors."""
        check_from(many, 0)
        check_whole(start)
        return Size(row_ahead([0] * many + [factorial(many)], -start))

    @property
    def degree(self):
        """The length of the row less 1."""
        return len(self.row) - 1

    def __call__(self, n):
        check_whole(n)
        return row_value(self.row, n)

    def __eq__(self, other):
        # Sizes that are equal from 0 on have the same row.
        return isinstance(other, Size) and self.row == other.row

    def __lt__(self, other):
        row = row_of(other)
        if row is None:
            return NotImplemented
        return all([sign < 0 for sign in signs_of_less(self.row, row)])

    def __le__(self, other):
        row = row_of(other)
        if row is None:
            return NotImplemented
        return all([sign <= 0 for sign in signs_of_less(self.row, row)])

    def __gt__(self, other):
        row = row_of(other)
        if row is None:
            return NotImplemented
        return all([sign > 0 for sign in signs_of_less(self.row, row)])

    def __ge__(self, other):
        row = row_of(other)
        if row is None:
            return NotImplemented
        return all([sign >= 0 for sign in signs_of_less(self.row, row)])

    def __neg__(self):
        return Size(row_times(self.row, -1))

    def __add__(self, other):
        row = row_of(other)
        if row is None:
            return NotImplemented
        return Size(row_sum(self.row, row))

    def __radd__(self, other):
        return self + other

    def __sub__(self, other):
        row = row_of(other)
        if row is None:
            return NotImplemented
        return Size(row_less(self.row, row))

    def __rsub__(self, other):
        return -self + other

    def __mul__(self, other):
        row = row_of(other)
        if row is None:
            return NotImplemented
        return Size(row_product(self.row, row))

    def __rmul__(self, other):
        return self * other

    def __pow__(self, other):
        check_from(other, 0)
        found = (1,)
        square = self.row
        rest = other
        # Squaring keeps this short for a great exponent, which a power of 0 or 1 may have.
        while rest > 0:
            if rest & 1 == 1:
                found = trimmed(row_product(found, square))
            rest = rest >> 1
            if rest > 0:
                square = trimmed(row_product(square, square))
        return Size(found)

    def __rshift__(self, other):
        check_whole(other)
        return Size(row_ahead(self.row, -other))

    def __lshift__(self, other):
        check_whole(other)
        return Size(row_ahead(self.row, other))

    def __floordiv__(self, other):
        if not is_whole(other) or other == 0:
            raise BadValue(other)
        # A size has only one row, so it has a quotient only if each of its counts has one.
        if any([count // other * other != count for count in self.row]):
            raise NotExact(other)
        return Size([count // other for count in self.row])

    def signs(self, start=0, end=None):
        """Return the triples (low, high, sign) of the stretches of one sign from start to end."""
        check_from(start, 0)
        if end is not None:
            check_from(end, start)
        return signs_between(self.row, start, end)

    def least_from(self, value):
        """Return the least n from which on no value is below value, or None."""
        check_whole(value)
        least = 0
        for _, high, sign in row_signs(row_less(self.row, (value,)), 0):
            if sign < 0:
                least = None if high is None else high + 1
        return least
