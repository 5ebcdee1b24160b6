"""Tallies: integers for every n that is 0 or greater, told by finitely many pieces."""

from everyname.checks import check_from, is_whole
from everyname.compares import compares, is_sign
from everyname.errors import BadValue, NoBound
from everyname.pieces import (least_taken, merged, paired, piece_signs, pieces_less, pieces_sum, pieces_times,
                              pieces_without_sign, settling, value_at)
from everyname.rows import row_product
from everyname.sizes import Size, row_of
from everyname.spans import Span


def is_size(value):
    """Tell whether value is a size or an integer, which stands for the size that it is everywhere."""
    return row_of(value) is not None


def is_piece(pair, below):
    """Tell whether pair is a piece that may stand behind one with the low below, or be the first if below is None."""
    if not isinstance(pair, tuple) or len(pair) != 2:
        return False
    low, size = pair
    if not is_whole(low) or not is_size(size):
        return False
    return low == 0 if below is None else low > below


def is_part(pair):
    """Tell whether pair is a tuple of a span and a size."""
    return isinstance(pair, tuple) and len(pair) == 2 and isinstance(pair[0], Span) and is_size(pair[1])


def check_pieces(pieces):
    """Raise BadValue if these are no pieces of a tally."""
    if not isinstance(pieces, (list, tuple)) or not pieces:
        raise BadValue(pieces)
    below = None
    for pair in pieces:
        if not is_piece(pair, below):
            raise BadValue(pair)
        below = pair[0]


def rows_of(value):
    """Return the pieces, with rows, of a tally, a size or an integer, and None for anything else."""
    if isinstance(value, Tally):
        return tuple([(low, size.row) for low, size in value.pieces])
    if is_size(value):
        return ((0, row_of(value)),)
    return None


def made_tally(pieces):
    """Return the tally with these pieces, which have rows."""
    return Tally([(low, Size(row)) for low, row in pieces])


def signs_of_less(tally, pieces):
    """Return the signs that the difference has."""
    return [triple[2] for triple in piece_signs(pieces_less(rows_of(tally), pieces))]


def turning_places(parts):
    """Return 0 and all n where a stretch of the parts' spans begins or is over, ascending."""
    found = {0: True}
    for span, _ in parts:
        for low, high in span.stretches:
            found[low] = True
            if high is not None:
                found[high + 1] = True
    return sorted([int(n) for n in found])


def first_size(parts, n, rest):
    """Return the size of the first part whose span contains n, or rest."""
    for span, size in parts:
        if n in span:
            return size
    return rest


class Tally:
    """An integer for every n from 0 on; pieces is a tuple of pairs (low, Size)."""

    def __init__(self, pieces):
        check_pieces(pieces)
        rows = [(low, row_of(size)) for low, size in pieces]
        self.pieces = tuple([(low, Size(row)) for low, row in merged(rows)])

    @classmethod
    def joined(cls, parts, rest=0):
        """Return the tally with the size of the first part whose span contains n, and rest elsewhere."""
        if not isinstance(parts, (list, tuple)):
            raise BadValue(parts)
        for pair in parts:
            if not is_part(pair):
                raise BadValue(pair)
        if not is_size(rest):
            raise BadValue(rest)
        return cls([(n, first_size(parts, n, rest)) for n in turning_places(parts)])

    @property
    def settles(self):
        """The least n from which on one size gives all values."""
        return settling(rows_of(self))

    @property
    def last(self):
        """The size that gives all values from some n on."""
        return self.pieces[-1][1]

    def __call__(self, n):
        check_from(n, 0)
        return value_at(rows_of(self), n)

    def __eq__(self, other):
        if not isinstance(other, Tally):
            return False
        return all([sign == 0 for sign in signs_of_less(self, rows_of(other))])

    def __lt__(self, other):
        pieces = rows_of(other)
        if pieces is None:
            return NotImplemented
        return all([sign < 0 for sign in signs_of_less(self, pieces)])

    def __le__(self, other):
        pieces = rows_of(other)
        if pieces is None:
            return NotImplemented
        return all([sign <= 0 for sign in signs_of_less(self, pieces)])

    def __gt__(self, other):
        pieces = rows_of(other)
        if pieces is None:
            return NotImplemented
        return all([sign > 0 for sign in signs_of_less(self, pieces)])

    def __ge__(self, other):
        pieces = rows_of(other)
        if pieces is None:
            return NotImplemented
        return all([sign >= 0 for sign in signs_of_less(self, pieces)])

    def __neg__(self):
        return made_tally(pieces_times(rows_of(self), -1))

    def __abs__(self):
        return made_tally(pieces_without_sign(rows_of(self)))

    def __add__(self, other):
        pieces = rows_of(other)
        if pieces is None:
            return NotImplemented
        return made_tally(pieces_sum(rows_of(self), pieces))

    def __radd__(self, other):
        return self + other

    def __sub__(self, other):
        pieces = rows_of(other)
        if pieces is None:
            return NotImplemented
        return made_tally(pieces_less(rows_of(self), pieces))

    def __rsub__(self, other):
        return -self + other

    def __mul__(self, other):
        pieces = rows_of(other)
        if pieces is None:
            return NotImplemented
        return made_tally([(low, row_product(row, factor)) for low, row, factor in paired(rows_of(self), pieces)])

    def __rmul__(self, other):
        return self * other

    def lowest(self):
        """Return the least value and the least n at which it is taken."""
        found = least_taken(rows_of(self))
        if found is None:
            raise NoBound()
        return found

    def highest(self):
        """Return the greatest value and the least n at which it is taken."""
        found = least_taken(pieces_times(rows_of(self), -1))
        if found is None:
            raise NoBound()
        return (-found[0], found[1])


def where(a, sign, b):
    """Return the span of all n at which the comparison of a(n) with b(n) holds."""
    if rows_of(a) is None:
        raise BadValue(a)
    if not is_sign(sign):
        raise BadValue(sign)
    if rows_of(b) is None:
        raise BadValue(b)
    triples = piece_signs(pieces_less(rows_of(a), rows_of(b)))
    return Span([(low, high) for low, high, turn in triples if compares(turn, sign, 0)])
