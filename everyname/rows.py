"""Rows: the counts (c0, c1, ..) of c0 * C(n, 0) + c1 * C(n, 1) + .., as lists or tuples of integers.

row[1:] is the row of the differences: of the value at n + 1 less the value at n.
"""


def chooses(n, many):
    """Return C(n, 0), C(n, 1), .., as many as are asked for; n may be below 0."""
    found = []
    worth = 1
    for k in range(many):
        if k > 0:
            # The division leaves no rest: worth * (n - k + 1) is k * C(n, k).
            worth = worth * (n - k + 1) // k
        found.append(worth)
    return found


def row_value(row, n):
    """Return the value at n."""
    return sum([count * worth for count, worth in zip(row, chooses(n, len(row)))])


def row_sum(row, other):
    """Return the row of the sum."""
    if len(row) < len(other):
        return row_sum(other, row)
    return [row[k] + other[k] if k < len(other) else row[k] for k in range(len(row))]


def row_times(row, factor):
    """Return the row of the product with an integer."""
    return [count * factor for count in row]


def row_through(values):
    """Return the row of least length that has the value values[k] at k."""
    found = []
    rest = list(values)
    while rest:
        found.append(rest[0])
        rest = [rest[k + 1] - rest[k] for k in range(len(rest) - 1)]
    return found


def row_product(row, other):
    """Return the row of the product, which its values at 0, 1, .. determine."""
    if not row or not other:
        return []
    many = len(row) + len(other) - 1
    return row_through([row_value(row, n) * row_value(other, n) for n in range(many)])


def row_ahead(row, k):
    """Return the row whose value at n is the value of this one at n + k."""
    # C(n + k, i) is the sum of C(n, j) * C(k, i - j) over all j from 0 to i.
    worths = chooses(k, len(row))
    return [sum([row[i] * worths[i - j] for i in range(j, len(row))]) for j in range(len(row))]


def trimmed(row):
    """Return the row as a tuple without the zeros at its end."""
    end = len(row)
    while end > 0 and row[end - 1] == 0:
        end = end - 1
    return tuple(row[:end])


def sign_of(value):
    """Return 1, 0 or -1."""
    if value == 0:
        return 0
    return 1 if value > 0 else -1


def is_reached(row, low, high, bits):
    """Tell whether the rising row is not below 0 at low + 2 ** bits - 1, or at high if that comes first.

    It is not below 0 at high; high is None if the row rises without end.
    """
    n = low + (1 << bits) - 1
    if high is not None and n >= high:
        return True
    return row_value(row, n) >= 0


def last_short(row, low, high):
    """Return the greatest number of bits for which is_reached does not hold; for 0 it does not."""
    short = 0
    enough = 1
    while not is_reached(row, low, high, enough):
        short = enough
        enough = enough * 2
    while enough - short > 1:
        middle = (short + enough) // 2
        if is_reached(row, low, high, middle):
            enough = middle
        else:
            short = middle
    return short


def straight_guess(row, below, above):
    """Return where the straight line between the values at below and above reaches 0, rounded down."""
    fall = -row_value(row, below)
    return below + (above - below) * fall // (fall + row_value(row, above))


def first_between(row, below, above):
    """Return the least n where the rising row is not below 0; it is below 0 at below and not at above.

    Halving alone takes a step for each bit. A straight guess gets better as the ends get nearer, so
    the width that is tried on both sides of it shrinks faster and faster as long as the turn is in it.
    """
    parts = 4
    while above - below > 1:
        unit = (above - below) // parts + 1
        guess = straight_guess(row, below, above)
        for n in (guess - unit, guess + unit, (below + above) // 2):
            if below < n < above:
                if row_value(row, n) < 0:
                    below = n
                else:
                    above = n
        parts = parts * parts if above - below <= 2 * unit else 4
    return above


def first_reached(row, low, high):
    """Return the least n from low to high where the rising row is not below 0, or None."""
    if row_value(row, low) >= 0:
        return low
    if high is not None and row_value(row, high) < 0:
        return None
    short = last_short(row, low, high)
    above = low + (1 << (short + 1)) - 1
    if high is not None and above > high:
        above = high
    return first_between(row, low + (1 << short) - 1, above)


def rising_signs(row, low, high):
    """Return the triples (low, high, sign) of a row that rises with each n from low to high."""
    turn = first_reached(row, low, high)
    if turn is None:
        return [(low, high, -1)]
    found = []
    if turn > low:
        found.append((low, turn - 1, -1))
    behind = turn
    if row_value(row, turn) == 0:
        found.append((turn, turn, 0))
        behind = turn + 1
    if high is None or behind <= high:
        found.append((behind, high, 1))
    return found


def slope_signs(row, low, high, slope):
    """Return the triples of a row whose differences have the sign slope from low to high."""
    if slope == 0:
        return [(low, high, sign_of(row_value(row, low)))]
    rising = row_times(row, slope)
    return [(first, last, sign * slope) for first, last, sign in rising_signs(rising, low, high)]


def joined_signs(triples):
    """Join neighbours that have the same sign."""
    found = []
    for low, high, sign in triples:
        if found and found[-1][2] == sign:
            found[-1] = (found[-1][0], high, sign)
        else:
            found.append((low, high, sign))
    return found


def row_signs(row, start):
    """Return the triples (low, high, sign) for all n from start on; neighbours differ, the last high is None.

    Where the differences keep their sign, a row only rises, only falls or rests, so that a search
    finds where its own sign changes. The last difference is the same at every n; from its sign
    those of each difference before it follow, and in the end those of the row itself.
    """
    counts = trimmed(row)
    if not counts:
        return [(start, None, 0)]
    parts = [(start, None, sign_of(counts[-1]))]
    for k in range(len(counts) - 2, -1, -1):
        # Neighbours of one sign stay apart until the end: where a difference turns is often where
        # the row itself does, and the search is short from there.
        parts = [part for low, high, slope in parts for part in slope_signs(counts[k:], low, high, slope)]
    return joined_signs(parts)


def signs_between(row, low, high):
    """Return the triples (low, high, sign) for all n from low to high; high is None if there is no end."""
    found = []
    for first, last, sign in row_signs(row, low):
        if high is None or first <= high:
            found.append((first, high if last is None or (high is not None and last > high) else last, sign))
    return found
