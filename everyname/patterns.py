"""Patterns: nested tuples that describe values by slots, which stand for others.

A pattern is ("known", word), ("mark", word), ("slot", i), ("row", parts) or ("set", items) with items (k, p),
where p is a pattern over k more slots than there are around the set.
"""

from everyname.orbits import ascending, collected, filled, members_in, orders_of, set_value, spread_freely
from everyname.shapes import (at_least, known_value, listed_value, mark_value, own_many, placed, row_parts, row_value,
                              slot_value)


def pattern_of(value, many):
    """Return the pattern over so many slots that reads as the value; the value's slots are those of the pattern."""
    shape, slots = value
    if shape.kind == "leaf":
        return shape.parts
    if shape.kind == "slot":
        return ("slot", slots[0])
    if shape.kind == "row":
        return ("row", tuple([pattern_of(part, many) for part in row_parts(value)]))
    # The own slots of an item stand for others that none of the slots around stands for.
    members = spread_freely(members_in(value), tuple(range(many)))
    return ("set", tuple([item_of(orbit, many) for orbit in members.orbits.values()]))


def item_of(orbit, many):
    """Return the item that reads as an orbit around so many slots."""
    shape, slots = orbit
    own = own_many(slots)
    return (own, pattern_of(placed(shape, filled(slots, tuple(range(many, many + own)))), many + own))


def slot_names(numbers):
    """Return others of which nothing is known, told by these slots."""
    return tuple([slot_value(number) for number in numbers])


def further_names(stock, names, many):
    """Return a tuple for each way to choose so many others besides these; those that are alike are chosen once."""
    if stock.listed is not None:
        used = {shape.parts[1]: True for shape, _ in names}
        free = [k for k in range(1, stock.listed + 1) if k not in used]
        return [tuple([listed_value(k) for k in order]) for order in orders_of(free, many)]
    if not at_least(stock, len(names) + many):
        return []
    start = 1 + max([int(slot) for _, slots in names for slot in slots], default=-1)
    return [slot_names(list(range(start, start + many)))]


def first_names(stock, many):
    """Return so many different others, or None if there are less of them."""
    if stock.listed is not None:
        return tuple([listed_value(k + 1) for k in range(many)]) if stock.listed >= many else None
    return slot_names(list(range(many))) if at_least(stock, many) else None


def reading(stock, pattern, names):
    """Return the value as which a pattern reads when these others are assigned to its slots."""
    kind, told = pattern
    if kind == "known":
        return known_value(told)
    if kind == "mark":
        return mark_value(told)
    if kind == "slot":
        return names[told]
    if kind == "row":
        return row_value([reading(stock, part, names) for part in told])
    return set_value(items_members(stock, told, names))


def items_members(stock, items, names):
    """Return all readings of items as the members of a set."""
    found = []
    for many, pattern in items:
        for further in further_names(stock, names, many):
            found.append(reading(stock, pattern, names + further))
    return collected(stock, ascending([slot for _, slots in names for slot in slots]), found)
