"""Values in which one of the others becomes a known name, or a known name one of the others.

Values are gone through by lists of their parts instead of by calls in calls, so that they may be nested
as deep as they like.
"""

from everyname.orbits import ascending, choices, collected, filled, members_in, set_value
from everyname.shapes import known_value, own_many, placed, row_parts, row_value, slot_value


def has_others(value):
    """Tell whether there are others in a value."""
    return "@" in value[0].key or "#" in value[0].key


def named_parts(old, value, slot):
    """Return the slots around and the parts of a value in which an other becomes known, as named has them."""
    if not has_others(value) or value[0].kind not in ("row", "set"):
        return (), []
    if value[0].kind == "row":
        return (), row_parts(value)
    members = members_in(value)
    around = members.around if old.listed is not None else ascending(members.around + (slot,))
    return tuple([other for other in around if other != slot]), [part for part, _ in choices(old, members, around)]


def named_told(old, new, value, slot, word, around, parts):
    """Return a value with a known name in the place of an other, from its parts and the slots around them."""
    shape, slots = value
    if not has_others(value):
        return value
    if shape.kind == "row":
        return row_value(parts)
    if shape.kind == "set":
        return set_value(collected(new, around, parts))
    return known_value(word) if slots == (slot,) or shape.parts == ("other", old.listed) else value


def named(old, new, value, slot, word):
    """Return a value with a known name in the place of an other.

    old is the stock of the value, and new the one without this other, which is told by a slot; where the
    others are listed, it is the last one.
    """
    waiting = [value]
    places = []
    while len(places) < len(waiting):
        around, parts = named_parts(old, waiting[len(places)], slot)
        places.append((around, len(waiting), len(waiting) + len(parts)))
        waiting.extend(list(parts))
    found = [() for _ in waiting]
    for at in range(len(waiting) - 1, -1, -1):
        around, start, end = places[at]
        found[at] = named_told(old, new, waiting[at], slot, word, around, found[start:end])
    return found[0]


def unnamed_parts(value, slot):
    """Return the parts of a value in which a known name becomes an other, as unnamed has them."""
    shape, slots = value
    if shape.kind == "row":
        return row_parts(value)
    if shape.kind != "set":
        return []
    start = 1 + max([int(other) for other in slots + (slot,)])
    return [placed(inner, filled(places, tuple(range(start, start + own_many(places)))))
            for inner, places in members_in(value).orbits.values()]


def unnamed_told(wider, value, word, slot, parts):
    """Return a value with an other in the place of a known name, from its parts."""
    shape, slots = value
    if shape.kind == "row":
        return row_value(parts)
    if shape.kind == "set":
        return set_value(collected(wider, ascending(slots + (slot,)), parts))
    return slot_value(slot) if shape.parts == ("known", word) else value


def unnamed(wider, value, word, slot):
    """Return a value with an other, told by a slot, in the place of a known name.

    wider is the stock with this further other, in which nothing is known of any. No set of the value
    depends on the slot.
    """
    waiting = [value]
    places = []
    while len(places) < len(waiting):
        parts = unnamed_parts(waiting[len(places)], slot)
        places.append((len(waiting), len(waiting) + len(parts)))
        waiting.extend(list(parts))
    found = [() for _ in waiting]
    for at in range(len(waiting) - 1, -1, -1):
        start, end = places[at]
        found[at] = unnamed_told(wider, waiting[at], word, slot, found[start:end])
    return found[0]
