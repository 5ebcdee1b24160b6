"""Members of sets, told by orbits.

Around some slots, the members of a set fall into orbits: an orbit is a value with own slots, and its
members are what it becomes when different others that are not around take the places of the own slots.
"""

from everyname.rows import row_sum, trimmed
from everyname.shapes import (Shape, are_apart, at_least, check_apart, joined_needs, key_of, known_value, listed_value,
                              most_alike, most_own, needs_of, orbit, orbit_row, own_many, placed, row_parts, slot_shape,
                              turns_of)
from everyname.spelling import part_text, spelled


class Members:
    """The members of a value: orbits around some slots, by their keys. The slots around ascend.

    needs are those of the members, which are compared with each other.
    """

    def __init__(self, around, orbits, needs):
        self.around = around
        self.orbits = orbits
        self.needs = needs


def keyed_members(around, orbits):
    """Return the members with these orbits, which stand by their keys."""
    return Members(around, orbits, needs_of(list(orbits.values())))


def made_members(around, values):
    """Return the members with these orbits."""
    return keyed_members(around, {key_of(value): value for value in values})


def ascending(slots):
    """Return the slots, each once, as a tuple in ascending order."""
    each = {slot: True for slot in slots}
    return tuple(sorted([int(slot) for slot in each]))


def collected(stock, around, values):
    """Return the members that are these values, whatever others stand for the slots not in around."""
    members = made_members(around, [orbit(value, around) for value in values])
    check_apart(stock, members.needs)
    return members


def no_members():
    """Return the members of a value that has none."""
    return Members((), {}, ((), ()))


def members_in(value):
    """Return the members of a value."""
    shape, slots = value
    if shape.kind != "set":
        return no_members()
    if not slots:
        return Members((), shape.parts, shape.inner)
    found = {}
    for inner, labels in shape.parts.values():
        part = orbit((inner, [slots[k] if k >= 0 else k for k in labels]), slots)
        found[key_of(part)] = part
    return Members(ascending(slots), found, shape.inner)


def all_names(stock):
    """Return all names of the stock."""
    found = [known_value(word) for word in stock.known]
    if stock.listed is not None:
        return made_members((), found + [listed_value(k + 1) for k in range(stock.listed)])
    if at_least(stock, 1):
        found.append((slot_shape(), (-1,)))
    return made_members((), found)


def fillings(many, slots, most):
    """Return what own slots may become where these slots get around.

    Each of the own slots becomes one of the slots or remains own; at most as many as most remain own.
    """
    found = [()]
    for k in range(many):
        found = [filling + (slot,) for filling in found for slot in (*slots, -1 - k) if slot not in filling]
    return [filling for filling in found if own_many(filling) <= most]


def filled(slots, filling):
    """Return the slots with those of the filling in the place of own ones."""
    return [slot if slot >= 0 else filling[-1 - slot] for slot in slots]


def spread_orbits(value, added, around, most):
    """Return the orbits around more slots, the added ones, into which an orbit falls."""
    shape, slots = value
    return [orbit((shape, filled(slots, filling)), around) for filling in fillings(own_many(slots), added, most)]


def spread(stock, members, around):
    """Return the same members, told by orbits around these slots, which are all of theirs and others."""
    added = [slot for slot in around if slot not in members.around]
    if not added:
        return members
    values = list(members.orbits.values())
    most = most_own(stock, around, max([int(own_many(slots)) for _, slots in values], default=0))
    found = []
    for value in values:
        found.extend(list(spread_orbits(value, added, around, most)))
    return Members(around, {key_of(value): value for value in found}, members.needs)


def spread_freely(members, around):
    """Return the same members, told by orbits around these slots, as they are where there are enough others."""
    added = [slot for slot in around if slot not in members.around]
    found = []
    for value in members.orbits.values():
        found.extend(list(spread_orbits(value, added, around, own_many(value[1]))))
    return Members(around, {key_of(value): value for value in found}, members.needs)


def choices(stock, members, around):
    """Return a pair (member, slots around it and these slots) for each way in which a member can be chosen."""
    found = []
    start = around[-1] + 1 if around else 0
    for shape, slots in spread(stock, members, around).orbits.values():
        many = own_many(slots)
        if many == 0:
            found.append(((shape, slots), around))
        else:
            fresh = tuple(range(start, start + many))
            found.append((placed(shape, filled(slots, fresh)), around + fresh))
    return found


def side_by_side(stock, members, others):
    """Return both, told by orbits around the same slots."""
    check_apart(stock, joined_needs([members.needs, others.needs]))
    if members.around == others.around:
        return members, others
    around = ascending(members.around + others.around)
    return spread(stock, members, around), spread(stock, others, around)


def union(stock, members, others):
    """Return the members of one of two sets or of both."""
    left, right = side_by_side(stock, members, others)
    return keyed_members(left.around, {**left.orbits, **right.orbits})


def chosen(stock, members, others, inside):
    """Return those of the members that are (or, if inside is False, are not) among the others."""
    left, right = side_by_side(stock, members, others)
    return keyed_members(left.around, {key: left.orbits[key] for key in left.orbits if (key in right.orbits) == inside})


def is_same(stock, value, other):
    """Tell whether two values are equal."""
    if key_of(value) == key_of(other):
        return True
    if value[0].kind != other[0].kind or are_apart(stock, needs_of([value, other])):
        return False
    if value[0].kind == "row":
        pairs = list(zip(row_parts(value), row_parts(other)))
        return len(value[0].parts) == len(other[0].parts) and all([is_same(stock, a, b) for a, b in pairs])
    # Where sets cannot be told apart by their keys, their members often can.
    left, right = side_by_side(stock, members_in(value), members_in(other))
    return len(left.orbits) == len(right.orbits) and all([key in right.orbits for key in left.orbits])


def has(stock, members, value):
    """Tell whether a value is one of the members."""
    if key_of(orbit(value, members.around)) in members.orbits:
        return True
    if are_apart(stock, joined_needs([members.needs, value[0].needs])):
        return False
    around = ascending(members.around + value[1])
    return any([is_same(stock, value, member) for member, _ in choices(stock, members, around)])


def is_within(stock, members, others):
    """Tell whether all members are among the others."""
    return not chosen(stock, members, others, False).orbits


def members_joined(stock, members):
    """Return the members of the members."""
    found = []
    for value, around in choices(stock, members, members.around):
        found.extend(list(spread(stock, members_in(value), around).orbits.values()))
    return collected(stock, members.around, found)


def members_many(members):
    """Return the row of the number of members."""
    found = ()
    for value in members.orbits.values():
        found = row_sum(found, orbit_row(value, members.around))
    return trimmed(found)


def without_slot(members, slot):
    """Return the same members, told by orbits without this slot around, or None if they depend on it."""
    around = tuple([other for other in members.around if other != slot])
    wider = made_members(around, [orbit(value, around) for value in members.orbits.values()])
    for value in wider.orbits.values():
        # Whether there are enough others for an orbit plays no part: what depends on a slot is told
        # in the same way for every number of others.
        for part in spread_orbits(value, [slot], members.around, own_many(value[1])):
            if key_of(part) not in members.orbits:
                return None
    return wider


def least_around(members):
    """Return the same members, told by orbits around the slots alone on which they depend."""
    around = members.around
    for slot in around:
        wider = without_slot(members, slot)
        if wider is not None:
            members = wider
    return members


def labelled(members, order):
    """Return the orbits with labels, which the order tells, by their texts."""
    labels = {slot: k for k, slot in enumerate(order)}
    around = tuple(range(len(order)))
    found = {}
    for shape, slots in members.orbits.values():
        part = orbit((shape, [labels.get(slot, slot) for slot in slots]), around)
        found[part_text(part)] = part
    return found


def slot_text(members, slot):
    """Return a text that is the same for slots that stand in the members in the same way."""
    labels = {other: 1 for other in members.around}
    labels[slot] = 0
    texts = []
    for shape, slots in members.orbits.values():
        texts.append(part_text(orbit((shape, [labels.get(other, other) for other in slots]), (0, 1))))
    return ", ".join(sorted([str(text) for text in texts]))


def orders_of(slots, many):
    """Return all orders of many of these slots."""
    found = [()]
    for _ in range(many):
        found = [order + (slot,) for order in found for slot in slots if slot not in order]
    return found


def likely_orders(members):
    """Return the orders of the slots around among which the one form of a set is looked for."""
    cells = {}
    for slot in members.around:
        cells.setdefault(slot_text(members, slot), []).append(slot)
    found = [()]
    for text in sorted([str(text) for text in cells]):
        found = [order + further for order in found for further in orders_of(cells[text], len(cells[text]))]
    return found


def least_labelled(members):
    """Return the labelled orbits with the least texts and the orders of the slots around that give them."""
    least = None
    found = {}
    orders = []
    for order in likely_orders(members):
        table = labelled(members, order)
        texts = sorted([str(text) for text in table])
        if least is None or texts < least:
            least = texts
            found = table
            orders = [order]
        elif texts == least:
            orders = orders + [order]
    return {text: found[text] for text in least}, orders


def set_needs(members, table, turns):
    """Return the needs of a set with these members and turns, whose labelled orbits the table has."""
    own = max([int(own_many(labels)) for _, labels in table.values()], default=0)
    outer, inner = members.needs
    each = {triple: True for triple in outer + inner}
    return (((len(members.around), own, most_alike(turns)),), tuple(each))


def plain_set(members):
    """Return the set with these members, on which no slots stand."""
    table = {shape.key: (shape, ()) for shape, _ in members.orbits.values()}
    key, lines = spelled("{0; ", [table[text] for text in sorted([str(text) for text in table])], "}")
    needs = set_needs(members, {}, ((),))
    return (Shape("set", key, ((),), members.orbits, needs, members.needs, lines), ())


def set_value(members):
    """Return the set with these members."""
    if not members.around and not any([slots for _, slots in members.orbits.values()]):
        return plain_set(members)
    members = least_around(members)
    table, orders = least_labelled(members)
    key, lines = spelled("{" + str(len(members.around)) + "; ", list(table.values()), "}")
    parts = {key_of(part): part for part in table.values()}
    turns = turns_of(orders)
    shape = Shape("set", key, turns, parts, set_needs(members, table, turns), members.needs, lines)
    return placed(shape, orders[0])
