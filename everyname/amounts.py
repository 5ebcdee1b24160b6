"""Numbers that depend on n, told by rows: comparing them, and the sizes of values when they are shown."""

from everyname.compares import compares
from everyname.rows import row_product, row_sum, row_times, row_value, signs_between
from everyname.shapes import Split, orbit_row


def amount_compares(stock, row, sign, other):
    """Tell whether a comparison of two numbers holds; raise Split if that is not the same for every n."""
    less = row_sum(row, row_times(other, -1))
    if stock.low == stock.high:
        return compares(row_value(less, stock.low), sign, 0)
    triples = signs_between(less, stock.low, stock.high)
    first = compares(triples[0][2], sign, 0)
    for low, _, turn in triples:
        if compares(turn, sign, 0) != first:
            raise Split(low + stock.shift)
    return first


def part_shapes(shape):
    """Return the shapes of the parts of a row and of the members of a set."""
    if shape.kind == "row":
        return [inner for inner, _ in shape.parts]
    return [inner for inner, _ in shape.parts.values()] if shape.kind == "set" else []


def size_row(shape, rows):
    """Return the row of the size of a shape's values, from those of its parts, by their keys."""
    found = ()
    if shape.kind == "row":
        for inner, _ in shape.parts:
            found = row_sum(found, rows[inner.key])
    elif shape.kind == "set":
        around = tuple(range(len(shape.turns[0])))
        for part in shape.parts.values():
            found = row_sum(found, row_product(orbit_row(part, around), row_sum((1,), rows[part[0].key])))
    return found


def weight_row(value):
    """Return the row of the size of a value when it is shown, however deep the value is nested."""
    found = {}
    waiting = [value[0]]
    while waiting:
        shape = waiting[-1]
        missing = [inner for inner in part_shapes(shape) if inner.key not in found]
        waiting.extend(list(missing))
        if not missing:
            found[shape.key] = size_row(shape, found)
            waiting.pop()
    return found[value[0].key]


def weight_at(value, n):
    """Return the size of a value when it is shown at n."""
    return row_value(weight_row(value), n)
