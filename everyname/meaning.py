"""What expressions, tests and numbers mean: an environment tells the value of each variable."""

from everyname.amounts import amount_compares
from everyname.orbits import (all_names, ascending, choices, chosen, collected, has, is_same, is_within, members_in,
                              members_joined, members_many, no_members, set_value, union)
from everyname.rows import row_product, row_sum, row_times
from everyname.shapes import known_value, mark_value, row_parts, row_value
from everyname.trees import free_names, pattern_names


def tree_value(stock, e, values):
    """Return the value of an expression."""
    tag = e[0]
    if tag == "known":
        return known_value(e[1])
    if tag == "mark":
        return mark_value(e[1])
    if tag == "var":
        return values[e[1]]
    if tag == "row":
        return row_value([tree_value(stock, part, values) for part in e[1:]])
    return set_value(tree_members(stock, e, values))


def tree_members(stock, e, values):
    """Return the members of the value of an expression."""
    tag = e[0]
    if tag in ("known", "mark", "row"):
        return no_members()
    if tag == "var":
        return members_in(values[e[1]])
    if tag == "set":
        found = [tree_value(stock, part, values) for part in e[1:]]
        return collected(stock, ascending([slot for _, slots in found for slot in slots]), found)
    if tag == "all":
        return all_names(stock)
    if tag == "join":
        return members_joined(stock, tree_members(stock, e[1], values))
    if tag == "gather":
        return gathered(stock, e, values)
    left = tree_members(stock, e[1], values)
    right = tree_members(stock, e[2], values)
    if tag == "union":
        return union(stock, left, right)
    if tag == "either":
        return union(stock, chosen(stock, left, right, False), chosen(stock, right, left, False))
    return chosen(stock, left, right, tag == "meet")


def slots_in(values, names):
    """Return the slots in the values of the variables that have one."""
    return ascending([slot for name in names if name in values for slot in values[name][1]])


def bound_to(values, pattern, value):
    """Return the values with the pattern's variables bound to a member, or None if the pattern does not fit it."""
    if isinstance(pattern, str):
        return {**values, pattern: value}
    if value[0].kind != "row" or len(value[0].parts) != len(pattern):
        return None
    found = dict(values)
    for name, part in zip(pattern, row_parts(value)):
        found[name] = part
    return found


def bindings(stock, pattern, members, values, around):
    """Return a pair (values, slots around them) for each way to bind the pattern to one of the members."""
    found = []
    for value, wider in choices(stock, members, around):
        inner = bound_to(values, pattern, value)
        if inner is not None:
            found.append((inner, wider))
    return found


def tests_joined(t):
    """Return tests that hold together exactly if t holds."""
    if t[0] == "and":
        return tests_joined(t[1]) + tests_joined(t[2])
    return [t]


def all_hold(stock, tests, values):
    """Tell whether all tests hold."""
    for t in tests:
        if not test_holds(stock, t, values):
            return False
    return True


def gathered(stock, e, values):
    """Return the members of a gather."""
    around = slots_in(values, free_names(e))
    places = gather_places(stock, e, values, around)
    return collected(stock, around, [tree_value(stock, e[1], inner) for inner, _ in places])


def gather_places(stock, e, values, around):
    """Return the places (values, slots around them) of a gather at which its test holds.

    The slots around are those of the values on which the gather depends, and perhaps others.
    """
    places = [(values, around)]
    bound = ()
    waiting = tests_joined(e[3])
    for k, (pattern, source) in enumerate(e[2]):
        places = passed_on(stock, pattern, source, bound, places)
        bound = bound + pattern_names(pattern)
        # A test is looked at as soon as its variables are bound: so less is left for the next sources.
        later = {name: True for pair in e[2][k + 1:] for name in pattern_names(pair[0])}
        ready = [t for t in waiting if not any([name in later for name in free_names(t)])]
        waiting = [t for t in waiting if t not in ready]
        places = [place for place in places if all_hold(stock, ready, place[0])]
    return places


def passed_on(stock, pattern, source, bound, places):
    """Return the places behind a source, from those ahead of it, where the bound variables differ."""
    found = []
    members = None
    moving = any([name in bound for name in free_names(source)])
    for values, around in places:
        if moving or members is None:
            members = tree_members(stock, source, values)
        found.extend(list(bindings(stock, pattern, members, values, around)))
    return found


def test_holds(stock, t, values):
    """Tell whether a test holds."""
    tag = t[0]
    if tag == "true":
        return True
    if tag == "not":
        return not test_holds(stock, t[1], values)
    if tag == "and":
        return test_holds(stock, t[1], values) and test_holds(stock, t[2], values)
    if tag == "or":
        return test_holds(stock, t[1], values) or test_holds(stock, t[2], values)
    if tag in ("some", "every"):
        return quantifier_holds(stock, t, values)
    if tag == "compare":
        return amount_compares(stock, number_row(stock, t[1], values), t[2], number_row(stock, t[3], values))
    if tag == "within":
        return is_within(stock, tree_members(stock, t[1], values), tree_members(stock, t[2], values))
    if tag == "in":
        return has(stock, tree_members(stock, t[2], values), tree_value(stock, t[1], values))
    return is_same(stock, tree_value(stock, t[1], values), tree_value(stock, t[2], values))


def quantifier_holds(stock, t, values):
    """Tell whether a test with some or every holds."""
    tag, pattern, source, test = t
    around = slots_in(values, free_names(t))
    for value, _ in choices(stock, tree_members(stock, source, values), around):
        inner = bound_to(values, pattern, value)
        if inner is not None and test_holds(stock, test, inner) == (tag == "some"):
            return tag == "some"
    return tag == "every"


def number_row(stock, x, values):
    """Return the row of the number that a tree means."""
    tag = x[0]
    if tag == "whole":
        return (x[1],)
    if tag == "count":
        return members_many(tree_members(stock, x[1], values))
    left = number_row(stock, x[1], values)
    right = number_row(stock, x[2], values)
    if tag == "times":
        return row_product(left, right)
    return row_sum(left, right if tag == "plus" else row_times(right, -1))
