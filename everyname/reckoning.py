"""Shown values as values over a stock."""

from everyname.errors import BadValue
from everyname.orbits import ascending, collected, set_value
from everyname.shapes import known_value, listed_value, mark_value, row_value, slot_value
from everyname.values import checked


def checked_nodes(value, known, n):
    """Return the nodes of a shown value, its text and the others in it; raise BadValue if it is none of stock n."""
    nodes, texts = checked(value)
    others = {}
    for inner, _, _ in nodes:
        if (inner[0] == "known" and inner[1] not in known) or (inner[0] == "other" and inner[1] > n):
            raise BadValue(value)
        if inner[0] == "other":
            others[inner[1]] = True
    return nodes, texts[0], others


def node_value(stock, value, parts):
    """Return the value of a shown value from those of its parts; the other k has the slot k."""
    kind, told = value
    if kind == "known":
        return known_value(told)
    if kind == "mark":
        return mark_value(told)
    if kind == "other":
        return slot_value(told) if stock.listed is None else listed_value(told)
    if kind == "row":
        return row_value(parts)
    return set_value(collected(stock, ascending([slot for _, slots in parts for slot in slots]), parts))


def value_of_nodes(stock, nodes):
    """Return the value of a shown value with these nodes (see everyname/values.py)."""
    found = [() for _ in nodes]
    for at in range(len(nodes) - 1, -1, -1):
        value, start, end = nodes[at]
        found[at] = node_value(stock, value, found[start:end])
    return found[0]
