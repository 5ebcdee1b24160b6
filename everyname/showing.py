"""Showing values: the nested tuples in which others have numbers.

A value that is shown has the numbers of others, from 1 on, as its slots.
"""

from everyname.orbits import filled, members_in, orders_of
from everyname.shapes import key_of, own_many, placed, row_parts


def members_listed(stock, value):
    """Return the members of a set, one by one."""
    found = {}
    for shape, slots in members_in(value).orbits.values():
        many = own_many(slots)
        # There may be far too many others for listing, but not where own slots stand for them.
        free = [k for k in range(1, stock.alike + 1) if k not in value[1]] if many > 0 else []
        for filling in orders_of(free, many):
            member = placed(shape, filled(slots, filling))
            found[key_of(member)] = member
    return list(found.values())


def parts_listed(stock, value):
    """Return the parts of a row and the members of a set."""
    kind = value[0].kind
    if kind == "row":
        return row_parts(value)
    return members_listed(stock, value) if kind == "set" else []


def told(value, parts):
    """Return a value as it is shown, with its parts as they are shown."""
    shape, slots = value
    if shape.kind == "leaf":
        return shape.parts
    return ("other", slots[0]) if shape.kind == "slot" else (shape.kind, tuple(parts))


def shown(stock, value):
    """Return a value as it is shown, however deep it is nested."""
    waiting = [value]
    places = []
    while len(places) < len(waiting):
        parts = parts_listed(stock, waiting[len(places)])
        places.append((len(waiting), len(waiting) + len(parts)))
        waiting.extend(parts)
    found = [()] * len(waiting)
    for at in range(len(waiting) - 1, -1, -1):
        start, end = places[at]
        found[at] = told(waiting[at], found[start:end])
    return found[0]
