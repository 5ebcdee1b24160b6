"""Spans: sets of integers that are 0 or greater, told by finitely many stretches.

A stretch is a pair (low, high) for all n from low to high; high is None if there is no end.
"""

from everyname.checks import check_from, check_whole, is_whole
from everyname.digits import decimal
from everyname.errors import BadValue, EmptySpan


def is_stretch(pair):
    """Tell whether pair is a tuple (low, high) with 0 <= low <= high, or with high None."""
    if not isinstance(pair, tuple) or len(pair) != 2:
        return False
    low, high = pair
    if not is_whole(low) or low < 0:
        return False
    return high is None or (is_whole(high) and high >= low)


def depth_changes(stretches):
    """Return by how much the number of stretches that contain n changes, for each n where one begins or is over."""
    found = {}
    for low, high in stretches:
        found[low] = found.get(low, 0) + 1
        if high is not None:
            found[high + 1] = found.get(high + 1, 0) - 1
    return found


def covered(stretches, least, most):
    """Return the stretches, in their one form, of all n that least to most of the given ones contain.

    least is 1 or greater. The given stretches may overlap, touch and stand in any order.
    """
    changes = depth_changes(stretches)
    turns = []
    depth = 0
    inside = False
    for n in sorted([int(place) for place in changes]):
        depth = depth + changes[n]
        if inside != (least <= depth <= most):
            inside = not inside
            turns.append(n)
    return paired(turns)


def paired(turns):
    """Return the stretches that begin and are over, by turns, at the ascending numbers."""
    found = []
    for k in range(0, len(turns), 2):
        high = turns[k + 1] - 1 if k + 1 < len(turns) else None
        found.append((turns[k], high))
    return tuple(found)


def either_of(stretches, others):
    """Return the stretches of all n in one of two spans or in both."""
    return covered(stretches + others, 1, 2)


def both_of(stretches, others):
    """Return the stretches of all n in both of two spans."""
    return covered(stretches + others, 2, 2)


def one_of(stretches, others):
    """Return the stretches of all n in exactly one of two spans."""
    return covered(stretches + others, 1, 1)


def outside(stretches):
    """Return the stretches of all n from 0 on that are not in a span."""
    return one_of(stretches, ((0, None),))


def first_without(stretches, others):
    """Return the stretches of all n in the first of two spans and not in the second."""
    return both_of(stretches, outside(others))


def moved(stretches, k):
    """Return the stretches of all n + k, as far as they are 0 or greater."""
    found = []
    for low, high in stretches:
        if high is None:
            found.append((max(0, low + k), None))
        elif high + k >= 0:
            found.append((max(0, low + k), high + k))
    return tuple(found)


def stretch_text(low, high):
    """Return the text of one stretch."""
    if high is None:
        return f"{decimal(low)}-"
    return decimal(low) if low == high else f"{decimal(low)}-{decimal(high)}"


class Span:
    """A set of integers that are 0 or greater; stretches is the tuple of its stretches."""

    def __init__(self, stretches=()):
        if not isinstance(stretches, (list, tuple)):
            raise BadValue(stretches)
        for pair in stretches:
            if not is_stretch(pair):
                raise BadValue(pair)
        self.stretches = covered(stretches, 1, len(stretches))

    @staticmethod
    def single(n):
        """Return the span of n alone."""
        check_from(n, 0)
        return Span(((n, n),))

    @staticmethod
    def since(n):
        """Return the span of all integers from n on."""
        check_from(n, 0)
        return Span(((n, None),))

    @staticmethod
    def until(n):
        """Return the span of all integers from 0 to n."""
        check_from(n, 0)
        return Span(((0, n),))

    def __or__(self, other):
        if not isinstance(other, Span):
            return NotImplemented
        return Span(either_of(self.stretches, other.stretches))

    def __and__(self, other):
        if not isinstance(other, Span):
            return NotImplemented
        return Span(both_of(self.stretches, other.stretches))

    def __sub__(self, other):
        if not isinstance(other, Span):
            return NotImplemented
        return Span(first_without(self.stretches, other.stretches))

    def __xor__(self, other):
        if not isinstance(other, Span):
            return NotImplemented
        return Span(one_of(self.stretches, other.stretches))

    def __ior__(self, other):
        if not isinstance(other, Span):
            return NotImplemented
        self.stretches = either_of(self.stretches, other.stretches)
        return self

    def __iand__(self, other):
        if not isinstance(other, Span):
            return NotImplemented
        self.stretches = both_of(self.stretches, other.stretches)
        return self

    def __isub__(self, other):
        if not isinstance(other, Span):
            return NotImplemented
        self.stretches = first_without(self.stretches, other.stretches)
        return self

    def __invert__(self):
        return Span(outside(self.stretches))

    def __rshift__(self, other):
        check_whole(other)
        return Span(moved(self.stretches, other))

    def __lshift__(self, other):
        check_whole(other)
        return Span(moved(self.stretches, -other))

    def __contains__(self, x):
        if not is_whole(x):
            return False
        return any([low <= x and (high is None or x <= high) for low, high in self.stretches])

    def __bool__(self):
        return bool(self.stretches)

    def __eq__(self, other):
        return isinstance(other, Span) and self.stretches == other.stretches

    def __le__(self, other):
        if not isinstance(other, Span):
            return NotImplemented
        return not first_without(self.stretches, other.stretches)

    def __lt__(self, other):
        if not isinstance(other, Span):
            return NotImplemented
        return self <= other and self.stretches != other.stretches

    def __ge__(self, other):
        if not isinstance(other, Span):
            return NotImplemented
        return other <= self

    def __gt__(self, other):
        if not isinstance(other, Span):
            return NotImplemented
        return other < self

    def least(self):
        """Return the least member."""
        if not self.stretches:
            raise EmptySpan()
        return self.stretches[0][0]

    def greatest(self):
        """Return the greatest member, or None if there is none."""
        if not self.stretches:
            raise EmptySpan()
        return self.stretches[-1][1]

    def many(self):
        """Return the number of members, or None if there are infinitely many."""
        if self.stretches and self.stretches[-1][1] is None:
            return None
        return sum([high - low + 1 for low, high in self.stretches])

    def after(self, n):
        """Return the least member greater than n, or None."""
        check_whole(n)
        for low, high in self.stretches:
            if high is None or high > n:
                return low if low > n else n + 1
        return None

    def __str__(self):
        if not self.stretches:
            return "none"
        return ", ".join([stretch_text(low, high) for low, high in self.stretches])
