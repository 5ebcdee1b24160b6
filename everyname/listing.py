"""Values with the others listed: from values for every n to those for one n, however deep they are nested."""

from everyname.orbits import made_members, set_value
from everyname.shapes import key_of, listed_value, row_value
from everyname.showing import parts_listed


def rebuilt(value, parts):
    """Return a value with listed others, from its parts with listed others."""
    shape, slots = value
    if shape.kind == "slot":
        return listed_value(slots[0])
    if shape.kind == "row":
        return row_value(parts)
    return set_value(made_members((), parts)) if shape.kind == "set" else value


def listed_at(n, value):
    """Return a value with each of the n others told by its number; those for which a slot stands have its number."""
    found = {}
    waiting = [value]
    while waiting:
        top = waiting[-1]
        parts = parts_listed(n, top)
        missing = [part for part in parts if key_of(part) not in found]
        waiting.extend(list(missing))
        if not missing:
            found[key_of(top)] = rebuilt(top, [found[key_of(part)] for part in parts])
            waiting.pop()
    return found[key_of(value)]
