"""Pieces of tallies: tuples of pairs (low, row) whose lows ascend from 0 on.

The value at n is that of the last row whose low is at most n. Nothing here calls a size: what
operators and properties run works with the rows alone.
"""

from everyname.rows import row_signs, row_sum, row_times, row_value, signs_between, trimmed


def merged(pieces):
    """Return the pieces without those that go on with the row ahead of them."""
    found = []
    for low, row in pieces:
        counts = trimmed(row)
        if not found or found[-1][1] != counts:
            found.append((low, counts))
    return tuple(found)


def value_at(pieces, n):
    """Return the value at n."""
    found = ()
    for low, row in pieces:
        if low <= n:
            found = row
    return row_value(found, n)


def stretched(pieces):
    """Return the triples (low, high, row); the last high is None."""
    found = []
    for k, (low, row) in enumerate(pieces):
        high = pieces[k + 1][0] - 1 if k + 1 < len(pieces) else None
        found.append((low, high, row))
    return found


def paired(pieces, others):
    """Return the triples (low, row, other row) for each low of one of the two."""
    lows = {low: True for low, _ in pieces + others}
    found = []
    k = j = 0
    for low in sorted([int(place) for place in lows]):
        if k + 1 < len(pieces) and pieces[k + 1][0] == low:
            k += 1
        if j + 1 < len(others) and others[j + 1][0] == low:
            j += 1
        found.append((low, pieces[k][1], others[j][1]))
    return found


def piece_signs(pieces):
    """Return the triples (low, high, sign) of all pieces, from 0 on; the last high is None."""
    found = []
    for low, high, row in stretched(pieces):
        found.extend(list(signs_between(row, low, high)))
    return found


def pieces_sum(pieces, others):
    """Return the pieces of the sum."""
    return merged([(low, row_sum(row, other)) for low, row, other in paired(pieces, others)])


def pieces_times(pieces, factor):
    """Return the pieces of the product with an integer."""
    return merged([(low, row_times(row, factor)) for low, row in pieces])


def pieces_less(pieces, others):
    """Return the pieces of the difference."""
    return pieces_sum(pieces, pieces_times(others, -1))


def pieces_without_sign(pieces):
    """Return the pieces of the absolute values."""
    found = []
    for low, high, row in stretched(pieces):
        for first, _, sign in signs_between(row, low, high):
            found.append((first, row_times(row, -1) if sign < 0 else row))
    return merged(found)


def settling(pieces):
    """Return the least n from which on the last row gives all values."""
    last = pieces[-1][1]
    for _, high, sign in reversed(list(piece_signs(pieces_less(pieces, ((0, last),))))):
        if sign != 0:
            return high + 1
    return 0


def turns(row, low, high):
    """Return places from low to high (which may be None) of which one has the least value, if there is one.

    Between two neighbours of them the row only rises, only falls or rests.
    """
    found = [low]
    if high is None or high > low:
        slopes = signs_between(row[1:], low, None if high is None else high - 1)
        found.extend([triple[0] for triple in slopes])
    if high is not None:
        found.append(high)
    return found


def least_taken(pieces):
    """Return the least value and the least n where it is taken, or None if the values fall without end."""
    last_low, last_row = pieces[-1]
    if row_signs(last_row[1:], last_low)[-1][2] < 0:
        return None
    least = None
    for low, high, row in stretched(pieces):
        for n in turns(row, low, high):
            value = row_value(row, n)
            if least is None or value < least[0]:
                least = (value, n)
    return least
