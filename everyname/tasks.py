"""Tasks: what is worked out over a stock, told by tuples, so that it can be done again over others.

The values are those of variables, by their names.
"""

from everyname.barring import first_broken
from everyname.deriving import derivation, first_not_right, leaving_step
from everyname.matching import pairing_told
from everyname.meaning import test_holds, tree_value
from everyname.naming import named
from everyname.orbits import chosen, has, members_in
from everyname.patterns import reading
from everyname.reckoning import value_of_nodes
from everyname.ruling import rounds_of, rounds_value, turn_of
from everyname.shapes import Stock
from everyname.steps import executed


def stock_below(stock, word):
    """Return the stock in which one of the others is the known name word."""
    known = stock.known + (word,)
    if stock.listed is not None:
        return Stock(known, stock.listed - 1, 0, 0)
    return Stock(known, None, stock.low - 1, None if stock.high is None else stock.high - 1, 1)


def members_apart(stock, values):
    """Return the orbits of the members of "a" that are none of "b", and those the other way round."""
    left, right = members_in(values["a"]), members_in(values["b"])
    return (list(chosen(stock, left, right, False).orbits.values()),
            list(chosen(stock, right, left, False).orbits.values()))


def rule_value(stock, task, values):
    """Return the family of a rule, or None if it does not come to rest."""
    rounds = rounds_of(stock, task[1], task[2], task[3], values)
    return None if rounds is None else rounds_value(rounds)


def paper_result(stock, task, values):
    """Return what a task of papers gives; its items are the name and the clauses of a rule, and what is asked."""
    tag, name, clauses, asked = task
    if tag == "leaving":
        return leaving_step(stock, name, clauses, values)
    if tag == "follows":
        return first_not_right(stock, asked[0], name, clauses, values, asked[1], asked[2])
    # The step that made this rule has found that it rests.
    rounds = rounds_of(stock, name, clauses, asked[0], values)
    value = value_of_nodes(stock, asked[1])
    return turn_of(rounds, value) if tag == "turn" else derivation(stock, name, clauses, values, rounds, value)


def is_last(task, result):
    """Tell whether greater n are not asked for when a task has given this: a rule or a "do" does not come to rest."""
    if task[0] == "rule":
        return result is None
    return task[0] == "do" and result.end != "rests"


def task_result(stock, task, values):
    """Return what a task gives over a stock."""
    tag = task[0]
    if tag == "value":
        return tree_value(stock, task[1], values)
    if tag == "test":
        return test_holds(stock, task[1], values)
    if tag in ("run", "do"):
        return executed(stock, task[1], task[2], task[3], values)
    if tag == "has":
        return has(stock, members_in(values["a"]), value_of_nodes(stock, task[1]))
    if tag == "apart":
        return members_apart(stock, values)
    if tag == "reading":
        # Where others are listed, the value with this pattern is known already.
        return reading(stock, task[1], ()) if stock.listed is None else values["a"]
    if tag == "named":
        return named(stock, stock_below(stock, task[1]), values["a"], 0, task[1])
    if tag == "shows":
        return first_broken(stock, task[1], task[2], task[3], values)
    if tag == "pairing":
        return pairing_told(stock, task[1], task[2], values)
    if tag == "rule":
        return rule_value(stock, task, values)
    return paper_result(stock, task, values)
