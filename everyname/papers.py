"""Papers: derivations of the members of ruled families, step by step.

A step is a tuple (value, clause, members): a shown value, the index of a clause, and a member for each source.
"""

from everyname.checks import check_same_stock
from everyname.errors import BadName
from everyname.moments import names_read, tables_of
from everyname.reckoning import checked_nodes
from everyname.regions import region_at, solved, span_of, together
from everyname.showing import shown


def clauses_of(moment, name):
    """Return the clauses of the rule of this name; raise BadName if there is none."""
    for other, clauses in moment.rules:
        if other == name:
            return clauses
    raise BadName(name)


def asked_at(moment, name, n, tag, asked):
    """Return what a task of papers gives at n."""
    clauses = clauses_of(moment, name)
    region = region_at(together(tables_of(moment, names_read(name, clauses))), n)
    return solved(moment.known, [region], (tag, name, clauses, asked))[0][3]


def step_shown(n, step):
    """Return a step with its values as they are shown."""
    value, index, members = step
    return (shown(n, value), index, tuple([shown(n, member) for member in members]))


def why(world, name, n, value):
    """Return a paper whose last step gives the value, or None if it is no member of the rule's family at n."""
    now = world._now()
    clauses_of(now, name)
    nodes, _, _ = checked_nodes(value, now.known, n)
    steps = asked_at(now, name, n, "why", (now.limit, nodes))
    return None if steps is None else tuple([step_shown(n, step) for step in steps])


def follows(world, name, n, value, paper):
    """Return -1 if a paper is right for a value, and else the index of the first step that is not right."""
    now = world._now()
    clauses_of(now, name)
    _, text, _ = checked_nodes(value, now.known, n)
    if not isinstance(paper, tuple):
        return 0
    return asked_at(now, name, n, "follows", (n, paper, text))


def turn(world, name, n, value):
    """Return the number of the round in which a value becomes a member of the rule's family at n, or None."""
    now = world._now()
    clauses_of(now, name)
    nodes, _, _ = checked_nodes(value, now.known, n)
    return asked_at(now, name, n, "turn", (now.limit, nodes))


def leaves(world, name, family):
    """Return None if a family is closed under a rule, and else the least n where it is not, and a step out of it."""
    now = world._now()
    clauses = clauses_of(now, name)
    check_same_stock(now.known, family.known)
    regions = together({**tables_of(now, names_read(name, clauses)), name: family._pieces})
    least = None
    for clause in clauses:
        failing = ~span_of(now.known, regions, ("within", clause, ("var", name)))
        if failing and (least is None or failing.least() < least):
            least = failing.least()
    if least is None:
        return None
    step = solved(now.known, [region_at(regions, least)], ("leaving", name, clauses, ()))[0][3]
    return (least, step_shown(least, step))
