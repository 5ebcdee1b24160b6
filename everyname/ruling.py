"""The rounds in which the family of a rule is found, and the places at which a clause gives a value.

Around no slots, the members of a ruled family are told by orbits. A round gives only what depends on a
member that the round before gave: so each source that is the rule's own name is, by turns, these members.
"""

from everyname.meaning import gather_places, tree_members, tree_value
from everyname.orbits import Members, is_same, set_value
from everyname.shapes import Shape, check_apart, joined_needs, key_of, orbit, row_value

OWN = ("0", "1", "2")


def own_places(name, clause):
    """Return the indexes of the sources of a clause that are the rule's own name."""
    return [k for k, (_, source) in enumerate(clause[2]) if source == ("var", name)]


def with_own(name, clause):
    """Return the clause with a variable of its own for each source that is the rule's own name."""
    sources = tuple([(pattern, ("var", OWN[k]) if source == ("var", name) else source)
                     for k, (pattern, source) in enumerate(clause[2])])
    return (clause[0], clause[1], sources, clause[3])


def bare_set(orbits, needs):
    """Return a set with these orbits as something to take members from. It has no key of its own."""
    return (Shape("set", "", ((),), orbits, ((), ()), needs), ())


def round_members(stock, name, clauses, values, total, last):
    """Return what the clauses give in a round, as a list of Members; total and last are bare sets.

    last has the members that the round before gave; it is None in the first round.
    """
    found = []
    for clause in clauses:
        places = own_places(name, clause)
        inner = {**values, **{OWN[k]: total for k in places}}
        if last is None:
            if not places:
                found.append(tree_members(stock, clause, inner))
            continue
        for k in places:
            found.append(tree_members(stock, with_own(name, clause), {**inner, OWN[k]: last}))
    return found


def rounds_of(stock, name, clauses, most, values):
    """Return what each round adds, as a list of Members; None if more than most rounds change the set."""
    found = []
    total = {}
    needs = ((), ())
    last = None
    while len(found) <= most:
        several = round_members(stock, name, clauses, values, bare_set(total, needs), last)
        needs = joined_needs([needs] + [members.needs for members in several])
        check_apart(stock, needs)
        fresh = {}
        for members in several:
            fresh = {**fresh, **{key: members.orbits[key] for key in members.orbits if key not in total}}
        if not fresh:
            return found
        found.append(Members((), fresh, needs))
        total = {**total, **fresh}
        last = bare_set(fresh, needs)
    return None


def rounds_value(rounds):
    """Return the set of all members of these rounds."""
    total = {}
    for members in rounds:
        total = {**total, **members.orbits}
    return set_value(Members((), total, rounds[-1].needs if rounds else ((), ())))


def turn_of(rounds, value):
    """Return the number of the round that adds a value, or None."""
    key = key_of(orbit(value, ()))
    for k, members in enumerate(rounds):
        if key in members.orbits:
            return k + 1
    return None


def place_members(clause, values):
    """Return the member of each source that is bound at a place with these values."""
    return [values[pattern] if isinstance(pattern, str) else row_value([values[name] for name in pattern])
            for pattern, _ in clause[2]]


def places_with(stock, clause, values, value):
    """Return the values of each place at which a clause gives this value."""
    return [inner for inner, _ in gather_places(stock, clause, values, value[1])
            if is_same(stock, tree_value(stock, clause[1], inner), value)]
