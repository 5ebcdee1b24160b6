"""Executing programs: their statements as one list of steps, and the way that a run takes through it."""

from everyname.meaning import test_holds, tree_members, tree_value
from everyname.orbits import chosen, members_in, no_members, set_value, union
from everyname.shapes import check_apart, joined_needs, needs_of


class Outcome:
    """How a run ends (see everyname/runs.py), and the values of its variables in the last state."""

    def __init__(self, end, entry, rounds, course, state):
        self.end = end
        self.entry = entry
        self.rounds = rounds
        self.course = course
        self.state = state

    def round_length(self):
        """Return the number of while tests from the entry of a round on, or None."""
        return None if self.entry is None else self.rounds - self.entry

    def way(self):
        """Return what tells one way to run from another."""
        return (self.course, self.end, self.entry, self.round_length())


def steps_of(rows, start=0):
    """Return the steps of statements, of which the first one has the index start.

    A step is a put, an add or a drop; ("if", test, index) or ("while", test, index), which go on at the
    index if the test does not hold; or ("go", index), which goes on there.
    """
    found = []
    for row in rows:
        at = start + len(found)
        if row[0] not in ("if", "while"):
            found.append(row)
            continue
        inner = steps_of(row[2], at + 1)
        behind = at + len(inner) + 2
        second = () if row[0] == "while" else steps_of(row[3], behind)
        target = at if row[0] == "while" else behind + len(second)
        found.append((row[0], row[1], behind))
        found.extend(list(inner))
        found.append(("go", target))
        found.extend(list(second))
    return tuple(found)


def assigned(stock, step, state):
    """Return the value that a put, an add or a drop gives to its variable."""
    tag, name, e = step
    if tag == "put":
        return tree_value(stock, e, state)
    members = tree_members(stock, e, state)
    old = members_in(state[name])
    return set_value(union(stock, old, members) if tag == "add" else chosen(stock, old, members, False))


def state_text(state):
    """Return a text that is the same for equal states only."""
    return "; ".join([shape.key for shape, _ in state.values()])


def executed(stock, variables, steps, most, values):
    """Execute steps over a stock, with at most so many while tests; return the Outcome.

    The variables begin with these values, those that have none with the empty set.
    """
    empty = set_value(no_members())
    state = {name: values.get(name, empty) for name in variables}
    course = []
    met = {}
    needs = ((), ())
    rounds = 0
    at = 0
    while at < len(steps):
        step = steps[at]
        if step[0] == "go":
            at = step[1]
        elif step[0] in ("if", "while"):
            if step[0] == "while":
                needs = joined_needs([needs, needs_of(list(state.values()))])
                check_apart(stock, needs)
                place = (at, state_text(state))
                if place in met:
                    return Outcome("round", met[place], rounds, tuple(course), state)
                if rounds == most:
                    return Outcome("many", None, rounds, tuple(course), state)
                met[place] = rounds
                rounds += 1
            course.append(test_holds(stock, step[1], state))
            at = at + 1 if course[-1] else step[2]
        else:
            state[step[1]] = assigned(stock, step, state)
            at += 1
    return Outcome("rests", None, rounds, tuple(course), state)
