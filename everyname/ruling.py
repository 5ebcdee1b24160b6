"""The rounds in which the family of a rule is found."""

from everyname.meaning import tree_members
from everyname.orbits import is_same, members_in, no_members, set_value, union


def round_value(stock, name, clauses, values, so_far):
    """Return the set so far with the members that the clauses give in one round."""
    inner = {**values, name: so_far}
    members = members_in(so_far)
    for clause in clauses:
        members = union(stock, members, tree_members(stock, clause, inner))
    return set_value(members)


def rounds_of(stock, name, clauses, most, values):
    """Return the empty set and the set behind each round that changes it; None if more than most rounds do."""
    found = [set_value(no_members())]
    while len(found) <= most + 1:
        value = round_value(stock, name, clauses, values, found[-1])
        if is_same(stock, value, found[-1]):
            return found
        found.append(value)
    return None
