"""Showing values: the nested tuples in which others have numbers.

A value that is shown has the numbers of others, from 1 on, as its slots.
"""

from everyname.amounts import weight_at
from everyname.errors import TooMany
from everyname.orbits import filled, members_in, orders_of
from everyname.shapes import key_of, own_many, placed, row_parts


def members_listed(n, value):
    """Return the members of a set over n others, one by one."""
    found = {}
    for shape, slots in members_in(value).orbits.values():
        many = own_many(slots)
        # There may be far too many others for listing, but not where own slots stand for them.
        free = [k for k in range(1, n + 1) if k not in value[1]] if many > 0 else []
        for filling in orders_of(free, many):
            member = placed(shape, filled(slots, filling))
            found[key_of(member)] = member
    return list(found.values())


def parts_listed(n, value):
    """Return the parts of a row and the members of a set."""
    kind = value[0].kind
    if kind == "row":
        return row_parts(value)
    return members_listed(n, value) if kind == "set" else []


def told(value, parts):
    """Return a value as it is shown, with its parts as they are shown."""
    shape, slots = value
    if shape.kind == "leaf":
        return shape.parts
    return ("other", slots[0]) if shape.kind == "slot" else (shape.kind, tuple(parts))


def shown(n, value):
    """Return a value over n others as it is shown, however deep it is nested."""
    found = {}
    waiting = [value]
    while waiting:
        top = waiting[-1]
        parts = parts_listed(n, top)
        missing = [part for part in parts if key_of(part) not in found]
        waiting.extend(list(missing))
        if not missing:
            found[key_of(top)] = told(top, [found[key_of(part)] for part in parts])
            waiting.pop()
    return found[key_of(value)]


def shown_within(n, value, most):
    """Return a value as it is shown; raise TooMany if its size is greater than most."""
    weight = weight_at(value, n)
    if weight > most:
        raise TooMany(weight)
    return shown(n, value)


def least_orbit(n, orbits):
    """Return the least size of a shown member of one of the orbits, and this orbit; None if there is none."""
    least = None
    for value in orbits:
        weight = weight_at(value, n)
        if least is None or weight < least[0]:
            least = (weight, value)
    return least


def least_shown(n, orbits, most):
    """Return a member of the least size of the orbits (around no slots) as it is shown, or None if there is none.

    Raise TooMany if this size is greater than most.
    """
    least = least_orbit(n, orbits)
    if least is None:
        return None
    shape, slots = least[1]
    return shown_within(n, placed(shape, [-slot for slot in slots]), most)
