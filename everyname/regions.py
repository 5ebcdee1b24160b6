"""Doing tasks for every n at once.

A region is a tuple (low, high, listed, values) for all n from low to high, or from low on if high is None:
values tell the value of each variable by its name. They hold for each of these n, unless listed is True;
then low is high, and the others are listed in the values. The regions of a list ascend from 0 on without
gaps. Pieces are regions with one value in the place of the values.
"""

from everyname.listing import listed_at
from everyname.shapes import Split, Tight, alike_stock, key_of, listed_stock
from everyname.spans import Span
from everyname.tasks import is_last, task_result


def listed_region(n, values):
    """Return the region of n alone with the others listed, from values in which they are not."""
    return (n, n, True, {name: listed_at(n, values[name]) for name in values})


def whole_region():
    """Return the regions for all n without any variables."""
    return [(0, None, False, {})]


def solved(known, regions, task):
    """Return the regions with what a task gives there in the place of the values, split where it has to be.

    The regions behind the first one with a last result (see is_last) are left out.
    """
    waiting = [regions[k] for k in range(len(regions) - 1, -1, -1)]
    found = []
    while waiting:
        low, high, listed, values = waiting.pop()
        stock = listed_stock(known, low) if listed else alike_stock(known, low, high)
        try:
            result = task_result(stock, task, values)
        except Split as seam:
            waiting.append((seam.at, high, listed, values))
            waiting.append((low, seam.at - 1, listed, values))
        except Tight:
            for n in range(high, low - 1, -1):
                waiting.append(listed_region(n, values))
        else:
            found.append((low, high, listed, result))
            if is_last(task, result):
                return found
    return found


def eventually(known, region, task):
    """Return what a task gives for all n from some number on; the region has no end."""
    low, values = region[0], region[3]
    while True:
        try:
            return task_result(alike_stock(known, low, None), task, values)
        except Split as seam:
            low = seam.at


def joined(pieces):
    """Return pieces of values, as few as the same ones next to each other allow."""
    found = []
    for low, high, listed, value in pieces:
        # Where no other is named in a value, nothing is listed.
        still = listed and "#" in value[0].key
        if found and not still and not found[-1][2] and key_of(found[-1][3]) == key_of(value):
            found[-1] = (found[-1][0], high, False, value)
        else:
            found.append((low, high, still, value))
    return tuple(found)


def value_pieces(known, regions, e):
    """Return the pieces of the value of an expression."""
    return joined(solved(known, regions, ("value", e)))


def span_of(known, regions, test):
    """Return the Span of all n at which a test holds."""
    return Span([(low, high) for low, high, _, holds in solved(known, regions, ("test", test)) if holds])


def is_always(known, regions, test):
    """Tell whether a test holds at every n."""
    return all([holds for _, _, _, holds in solved(known, regions, ("test", test))])


def settled_from(span):
    """Return the least m such that all n from m on are in the span, which has no end."""
    outside = ~span
    return outside.greatest() + 1 if outside else 0


def piece_at(pieces, n):
    """Return the piece, or the region, that n lies in."""
    found = pieces[0]
    for piece in pieces:
        if piece[0] <= n:
            found = piece
    return found


def region_at(regions, n):
    """Return the region of n alone."""
    _, _, listed, values = piece_at(regions, n)
    return (n, n, listed, values)


def together(tables):
    """Return regions with the values of several variables, whose pieces stand in a dict."""
    lows = {0: True}
    for pieces in tables.values():
        for piece in pieces:
            lows[piece[0]] = True
    ascending = sorted([int(low) for low in lows])
    found = []
    for k, low in enumerate(ascending):
        high = ascending[k + 1] - 1 if k + 1 < len(ascending) else None
        found.append(region_of(low, high, {name: piece_at(tables[name], low) for name in tables}))
    return found


def region_of(low, high, parts):
    """Return the region from low to high with the values of these pieces."""
    if not any([piece[2] for piece in parts.values()]):
        return (low, high, False, {name: parts[name][3] for name in parts})
    values = {}
    for name, piece in parts.items():
        values[name] = piece[3] if piece[2] else listed_at(low, piece[3])
    return (low, high, True, values)
