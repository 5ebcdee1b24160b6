"""Whether a Stuck shows that there is no pairing: its four conditions, over a stock.

The near values are x if the side is "left" and y if it is "right"; the far ones are the others.
"""

from everyname.orbits import ascending, choices, chosen, has, is_same, is_within, members_in
from everyname.patterns import first_names, items_members, reading
from everyname.shapes import row_value


def are_items(stock, items, members):
    """Tell whether each item has a reading, all readings are among the members, and none is one of two items."""
    found = []
    for item in items:
        if first_names(stock, item[0]) is None:
            return False
        inner = items_members(stock, (item,))
        if not is_within(stock, inner, members) or any([bool(chosen(stock, inner, one, True).orbits) for one in found]):
            return False
        found.append(inner)
    return True


def are_few(side, crowd, fewer, one, onto):
    """Tell whether there are as many items as the second condition asks for."""
    if side == "left" and not one:
        return len(crowd) == 1 and not fewer
    return len(fewer) < len(crowd) and (side == "left" or bool(onto))


def has_move(stock, rows, within, a, b):
    """Tell whether a and b are no partners, or the row of both is one of the rows."""
    row = row_value([a, b])
    return (within is not None and not has(stock, within, row)) or has(stock, rows, row)


def has_moves(stock, stuck, values):
    """Tell whether there is a move for each two partners of which just the near one is in the crowd and fewer."""
    side, crowd, fewer, moves = stuck
    far = members_in(values["y" if side == "left" else "x"])
    spared = items_members(stock, fewer)
    rows = items_members(stock, tuple([(k, ("row", (a, b))) for k, a, b, _ in moves]))
    within = members_in(values["w"]) if "w" in values else None
    for many, pattern in crowd:
        # What holds for one reading of an item holds for all: they differ by a renaming alone.
        names = first_names(stock, many)
        near = reading(stock, pattern, names)
        around = ascending([slot for _, slots in names for slot in slots])
        for member, _ in choices(stock, far, around):
            a, b = (near, member) if side == "left" else (member, near)
            if not has(stock, spared, member) and not has_move(stock, rows, within, a, b):
                return False
    return True


def is_kept(stock, pattern, many, r):
    """Tell whether a renumbering keeps a pattern over so many slots; if not, it moves it."""
    names = first_names(stock, len(r))
    turned = [names[k] for k in r]
    return is_same(stock, reading(stock, pattern, names[:many]), reading(stock, pattern, tuple(turned[:many])))


def is_move(stock, move, one):
    """Tell whether a move keeps and moves what it should."""
    many, a, b, r = move
    keeps = is_kept(stock, a, many, r)
    if keeps == is_kept(stock, b, many, r):
        return False
    return keeps or bool(one)


def first_broken(stock, stuck, one, onto, values):
    """Return the number of the first condition that does not hold, or 0."""
    side, crowd, fewer, moves = stuck
    near, far = ("x", "y") if side == "left" else ("y", "x")
    if any([first_names(stock, len(r)) is None for _, _, _, r in moves]):
        return 1
    if not are_items(stock, crowd, members_in(values[near])) or not are_items(stock, fewer, members_in(values[far])):
        return 1
    if not are_few(side, crowd, fewer, one, onto):
        return 2
    if not has_moves(stock, stuck, values):
        return 3
    return 0 if all([is_move(stock, move, one) for move in moves]) else 4
