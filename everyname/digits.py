"""The decimal digits of integers of any length. Python by itself writes no more than 4300 of them."""

DIGITS_AT_ONCE = 60


def decimal(k):
    """Return the decimal digits of an integer that is 0 or greater."""
    parts = []
    unit = 10 ** 60
    while k >= unit:
        parts.append(str(k % unit).zfill(DIGITS_AT_ONCE))
        k = k // unit
    parts.append(str(k))
    return "".join(parts[::-1])
