"""Patterns: nested tuples that describe values by slots, which stand for others.

A pattern is ("known", word), ("mark", word), ("slot", i), ("row", parts) or ("set", items) with items (k, p),
where p is a pattern over k more slots than there are around the set. Patterns and values are gone through
by lists of their parts instead of by calls in calls, so that they may be nested as deep as they like.
"""

from everyname.orbits import ascending, collected, filled, members_in, orders_of, set_value, spread_freely
from everyname.shapes import (at_least, known_value, listed_value, mark_value, own_many, placed, row_parts, row_value,
                              slot_value)


def item_part(orbit, many):
    """Return (k, value, slots) for an orbit around so many slots: a member of it, over k more slots."""
    shape, slots = orbit
    own = own_many(slots)
    return (own, placed(shape, filled(slots, tuple(range(many, many + own)))), many + own)


def pattern_parts(value, many):
    """Return such triples for the parts of a row and for the orbits of a set, over so many slots."""
    kind = value[0].kind
    if kind == "row":
        return [(0, part, many) for part in row_parts(value)]
    if kind != "set":
        return []
    # The own slots of an item stand for others that none of the slots around stands for.
    members = spread_freely(members_in(value), tuple(range(many)))
    return [item_part(orbit, many) for orbit in members.orbits.values()]


def pattern_told(value, items):
    """Return the pattern that reads as a value, from pairs (k, pattern) for its parts."""
    shape, slots = value
    if shape.kind == "leaf":
        return shape.parts
    if shape.kind == "slot":
        return ("slot", slots[0])
    return (shape.kind, tuple([pattern for _, pattern in items]) if shape.kind == "row" else tuple(items))


def pattern_of(value, many):
    """Return the pattern over so many slots that reads as the value; the value's slots are those of the pattern."""
    waiting = [(0, value, many)]
    places = []
    while len(places) < len(waiting):
        _, inner, around = waiting[len(places)]
        parts = pattern_parts(inner, around)
        places.append((len(waiting), len(waiting) + len(parts)))
        waiting.extend(list(parts))
    found = [() for _ in waiting]
    for at in range(len(waiting) - 1, -1, -1):
        start, end = places[at]
        found[at] = (waiting[at][0], pattern_told(waiting[at][1], found[start:end]))
    return found[0][1]


def item_of(orbit):
    """Return the item over no slots that reads as an orbit around no slots."""
    own, value, many = item_part(orbit, 0)
    return (own, pattern_of(value, many))


def slot_names(numbers):
    """Return others of which nothing is known, told by these slots."""
    return tuple([slot_value(number) for number in numbers])


def further_names(stock, names, many):
    """Return a tuple for each way to choose so many others besides these; those that are alike are chosen once."""
    if stock.listed is not None:
        used = {shape.parts[1]: True for shape, _ in names}
        free = [k for k in range(1, stock.listed + 1) if k not in used]
        return [tuple([listed_value(k) for k in order]) for order in orders_of(free, many)]
    if not at_least(stock, len(names) + many):
        return []
    start = 1 + max([int(slot) for _, slots in names for slot in slots], default=-1)
    return [slot_names(list(range(start, start + many)))]


def first_names(stock, many):
    """Return so many different others, or None if there are less of them."""
    if stock.listed is not None:
        return tuple([listed_value(k + 1) for k in range(many)]) if stock.listed >= many else None
    return slot_names(list(range(many))) if at_least(stock, many) else None


def reading_parts(stock, pattern, names):
    """Return a pair (pattern, names) for each value of which the reading of a pattern is made."""
    kind, told = pattern
    if kind == "row":
        return [(part, names) for part in told]
    if kind != "set":
        return []
    return [(inner, names + further) for many, inner in told for further in further_names(stock, names, many)]


def reading_told(stock, pattern, names, values):
    """Return the value as which a pattern reads, from those of its parts."""
    kind, told = pattern
    if kind == "known":
        return known_value(told)
    if kind == "mark":
        return mark_value(told)
    if kind == "slot":
        return names[told]
    if kind == "row":
        return row_value(values)
    return set_value(collected(stock, ascending([slot for _, slots in names for slot in slots]), values))


def reading(stock, pattern, names):
    """Return the value as which a pattern reads when these others are assigned to its slots."""
    waiting = [(pattern, names)]
    places = []
    while len(places) < len(waiting):
        inner, assigned = waiting[len(places)]
        parts = reading_parts(stock, inner, assigned)
        places.append((len(waiting), len(waiting) + len(parts)))
        waiting.extend(list(parts))
    found = [() for _ in waiting]
    for at in range(len(waiting) - 1, -1, -1):
        start, end = places[at]
        found[at] = reading_told(stock, waiting[at][0], waiting[at][1], found[start:end])
    return found[0]


def items_members(stock, items):
    """Return all readings of items over no slots as the members of a set."""
    return members_in(reading(stock, ("set", items), ()))
