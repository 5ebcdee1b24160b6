"""Pairings from some n on: which members may be paired, and what bars a pairing.

The values x and y are told by orbits. An equivariant pairing sends the orbit of a member a of x to the orbit
of its partner b, and each renumbering that keeps a keeps b, too. An edge is such a pair.
"""

from everyname.orbits import ascending, choices, filled, has, members_in
from everyname.patterns import item_of, pattern_of
from everyname.shapes import (Tight, are_apart, joined_needs, key_of, orbit, own_many, placed, row_parts, row_value)


class Partners:
    """A pair of partners, a of x and b of y, and the indexes of their orbits."""

    def __init__(self, left, right, a, b):
        self.left = left
        self.right = right
        self.a = a
        self.b = b


def moved(value, numbers):
    """Return a value with other slots, which a dict tells for those that change."""
    shape, slots = value
    return placed(shape, [numbers.get(slot, slot) for slot in slots])


def move_of(a, b, spare):
    """Return how slots change, as a dict, by a renumbering that keeps a and moves b; None if there is none.

    spare is a slot that is in neither.
    """
    shape, slots = a
    for slot in b[1]:
        if slot not in slots:
            return {slot: spare, spare: slot}
    for turn in shape.turns:
        numbers = {slots[k]: slots[turn[k]] for k in range(len(turn))}
        if key_of(moved(b, numbers)) != key_of(b):
            return numbers
    return None


def spare_slot(a, b):
    """Return a slot that is in neither of two values."""
    return 1 + max([int(slot) for slot in a[1] + b[1]], default=-1)


def is_edge(pair, one):
    """Tell whether two partners may be paired."""
    spare = spare_slot(pair.a, pair.b)
    if move_of(pair.a, pair.b, spare) is not None:
        return False
    return not one or move_of(pair.b, pair.a, spare) is None


def filled_orbit(value):
    """Return a member of an orbit around no slots, with the slots from 0 on."""
    shape, slots = value
    return placed(shape, filled(slots, tuple(range(own_many(slots)))))


def partners_of(stock, values):
    """Return the partners, one pair for each way in which two of them may lie to each other."""
    x, y = members_in(values["x"]), members_in(values["y"])
    within = members_in(values["w"]) if "w" in values else None
    needs = joined_needs([x.needs, y.needs])
    if not are_apart(stock, needs):
        raise Tight()
    places = {key: k for k, key in enumerate(y.orbits)}
    found = []
    for left, value in enumerate(x.orbits.values()):
        a = filled_orbit(value)
        for b, _ in choices(stock, y, ascending(a[1])):
            if within is None or has(stock, within, row_value([a, b])):
                found.append(Partners(left, places[key_of(orbit(b, ()))], a, b))
    return found


def grown_tree(start, edges, matched):
    """Return (reached, parents, free): a search from start along edges, and back from matched ends.

    reached are the starts that are reached, parents the start from which each end is, and free an end
    that is not matched, or None.
    """
    reached = [start]
    parents = {}
    at = 0
    while at < len(reached):
        origin = reached[at]
        for end in edges[origin]:
            if end not in parents:
                parents[end] = origin
                if end not in matched:
                    return reached, parents, end
                reached.append(matched[end])
        at += 1
    return reached, parents, None


def matching(many, edges):
    """Return (matched, None) or (None, (starts, ends)).

    matched tells for ends the start that each one is paired with, for all of so many starts. Otherwise the ends
    are all those to which edges lead from these starts, and they are less.
    """
    matched = {}
    for start in range(many):
        reached, parents, end = grown_tree(start, edges, matched)
        if end is None:
            return None, (reached, list(parents))
        while end is not None:
            origin = parents[end]
            before = [other for other in matched if matched[other] == origin]
            matched[end] = origin
            end = before[0] if before else None
    return matched, None


def ends_of(many, pairs):
    """Return for each of so many starts the ends of its edges, from pairs (start, end)."""
    found = [[] for _ in range(many)]
    for start, end in pairs:
        if end not in found[start]:
            found[start].append(end)
    return found


class Bar:
    """What bars a pairing: the side, the indexes of the orbits in the crowd and of those to which edges lead."""

    def __init__(self, side, crowd, fewer):
        self.side = side
        self.crowd = crowd
        self.fewer = fewer


def chosen_edges(many, others, edges, one, onto):
    """Return (ends by their starts, None) for edges that make a pairing, or (None, Bar)."""
    ahead = ends_of(many, [(pair.left, pair.right) for pair in edges])
    found = {}
    if one:
        matched, hall = matching(many, ahead)
        if hall is not None:
            return None, Bar("left", hall[0], hall[1])
        found = {start: end for end, start in matched.items()}
    for start in range(many):
        if not ahead[start]:
            return None, Bar("left", [start], [])
        if start not in found:
            found[start] = ahead[start][0]
    if onto:
        matched, hall = matching(others, ends_of(others, [(pair.right, pair.left) for pair in edges]))
        if hall is not None:
            return None, Bar("right", hall[0], hall[1])
        # Where the pairing is one to one, there are as many orbits on both sides, and it is onto already.
        if not one:
            found = {**found, **matched}
    return found, None


def move_told(pair, one):
    """Return a move (k, a, b, r) for two partners that are no edge."""
    row = orbit(row_value([pair.a, pair.b]), ())
    many = own_many(row[1])
    a, b = row_parts(filled_orbit(row))
    numbers = move_of(a, b, many)
    if numbers is None and one:
        numbers = move_of(b, a, many)
    size = many + 1 if many in numbers else many
    return (many, pattern_of(a, many), pattern_of(b, many), tuple([numbers.get(k, k) for k in range(size)]))


def items_told(value, indexes):
    """Return the items of the orbits with these indexes."""
    orbits = list(members_in(value).orbits.values())
    return tuple([item_of(orbits[k]) for k in indexes])


def bar_told(values, bar, partners, one):
    """Return (side, crowd, fewer, moves) of a Stuck."""
    moves = {}
    for pair in partners:
        near, far = (pair.left, pair.right) if bar.side == "left" else (pair.right, pair.left)
        if near in bar.crowd and far not in bar.fewer:
            key = key_of(orbit(row_value([pair.a, pair.b]), ()))
            if key not in moves:
                moves[key] = move_told(pair, one)
    crowd, fewer = ("x", "y") if bar.side == "left" else ("y", "x")
    return (bar.side, items_told(values[crowd], bar.crowd), items_told(values[fewer], bar.fewer), tuple(moves.values()))


def pairing_told(stock, one, onto, values):
    """Return (rows, None) with the row of two partners for each orbit of x, or (None, what a Stuck is made of)."""
    partners = partners_of(stock, values)
    many, others = len(members_in(values["x"]).orbits), len(members_in(values["y"]).orbits)
    edges = [pair for pair in partners if is_edge(pair, one)]
    found, bar = chosen_edges(many, others, edges, one, onto)
    if bar is not None:
        return None, bar_told(values, bar, partners, one)
    rows = {}
    for pair in edges:
        if found[pair.left] == pair.right and pair.left not in rows:
            rows[pair.left] = row_value([pair.a, pair.b])
    return [rows[k] for k in range(many)], None
