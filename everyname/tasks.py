"""Tasks: what is worked out over a stock, told by tuples, so that it can be done again over others.

The values are those of variables, by their names.
"""

from everyname.meaning import test_holds, tree_value
from everyname.naming import named
from everyname.orbits import ascending, chosen, collected, has, members_in, set_value
from everyname.patterns import reading
from everyname.ruling import rounds_of
from everyname.shapes import Stock, known_value, listed_value, mark_value, row_value, slot_value
from everyname.steps import executed


def stock_below(stock, word):
    """Return the stock in which one of the others is the known name word."""
    known = stock.known + (word,)
    if stock.listed is not None:
        return Stock(known, stock.listed - 1, 0, 0)
    return Stock(known, None, stock.low - 1, None if stock.high is None else stock.high - 1, 1)


def node_value(stock, value, parts):
    """Return the value of a shown value from those of its parts; the other k has the slot k."""
    kind, told = value
    if kind == "known":
        return known_value(told)
    if kind == "mark":
        return mark_value(told)
    if kind == "other":
        return slot_value(told) if stock.listed is None else listed_value(told)
    if kind == "row":
        return row_value(parts)
    return set_value(collected(stock, ascending([slot for _, slots in parts for slot in slots]), parts))


def value_of_nodes(stock, nodes):
    """Return the value of a shown value with these nodes (see everyname/values.py)."""
    found = [()] * len(nodes)
    for at in range(len(nodes) - 1, -1, -1):
        value, start, end = nodes[at]
        found[at] = node_value(stock, value, found[start:end])
    return found[0]


def members_apart(stock, values):
    """Return the orbits of the members of "a" that are none of "b", and those the other way round."""
    left, right = members_in(values["a"]), members_in(values["b"])
    return (list(chosen(stock, left, right, False).orbits.values()),
            list(chosen(stock, right, left, False).orbits.values()))


def task_result(stock, task, values):
    """Return what a task gives over a stock."""
    tag = task[0]
    if tag == "value":
        return tree_value(stock, task[1], values)
    if tag == "test":
        return test_holds(stock, task[1], values)
    if tag == "run":
        return executed(stock, task[1], task[2], task[3], values)
    if tag == "has":
        return has(stock, members_in(values["a"]), value_of_nodes(stock, task[1]))
    if tag == "apart":
        return members_apart(stock, values)
    if tag == "reading":
        # Where others are listed, the value with this pattern is known already.
        return reading(stock, task[1], ()) if stock.listed is None else values["a"]
    if tag == "named":
        return named(stock, stock_below(stock, task[1]), values["a"], 0, task[1])
    return rounds_of(stock, task[1], task[2], task[3], values)
