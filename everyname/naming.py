"""Values in which one of the others becomes a known name, or a known name one of the others."""

from everyname.orbits import ascending, choices, collected, filled, members_in, set_value
from everyname.shapes import known_value, own_many, placed, row_parts, row_value, slot_value


def named(old, new, value, slot, word):
    """Return a value with a known name in the place of an other.

    old is the stock of the value, and new the one without this other, which is told by a slot; where the
    others are listed, it is the last one.
    """
    shape, slots = value
    if "@" not in shape.key and "#" not in shape.key:
        return value
    if shape.kind == "leaf":
        return known_value(word) if shape.parts == ("other", old.listed) else value
    if shape.kind == "slot":
        return known_value(word) if slots == (slot,) else value
    if shape.kind == "row":
        return row_value([named(old, new, part, slot, word) for part in row_parts(value)])
    members = members_in(value)
    around = members.around if old.listed is not None else ascending(members.around + (slot,))
    found = [named(old, new, member, slot, word) for member, _ in choices(old, members, around)]
    return set_value(collected(new, tuple([other for other in around if other != slot]), found))


def unnamed(wider, value, word, slot):
    """Return a value with an other, told by a slot, in the place of a known name.

    wider is the stock with this further other, in which nothing is known of any. No set of the value
    depends on the slot.
    """
    shape, slots = value
    if "@" not in shape.key and word not in shape.key:
        return value
    if shape.kind == "leaf":
        return slot_value(slot) if shape.parts == ("known", word) else value
    if shape.kind == "slot":
        return value
    if shape.kind == "row":
        return row_value([unnamed(wider, part, word, slot) for part in row_parts(value)])
    start = 1 + max([int(other) for other in slots + (slot,)])
    found = []
    for inner, places in members_in(value).orbits.values():
        member = placed(inner, filled(places, tuple(range(start, start + own_many(places)))))
        found.append(unnamed(wider, member, word, slot))
    return set_value(collected(wider, ascending(slots + (slot,)), found))
