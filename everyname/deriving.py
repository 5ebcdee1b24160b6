"""Steps of papers: finding the derivation of a value, checking a step, and finding one that leaves a family."""

from everyname.checks import is_whole
from everyname.errors import BadValue
from everyname.meaning import bound_to, gather_places, test_holds, tree_members, tree_value
from everyname.orbits import ascending, has, is_same, members_in
from everyname.reckoning import checked_nodes, value_of_nodes
from everyname.ruling import bare_set, own_places, place_members, places_with, turn_of
from everyname.shapes import key_of, placed


def with_small_slots(values, kept):
    """Return values with the least unused numbers from 1 on as slots, but for those that are kept."""
    numbers = {slot: slot for slot in kept}
    k = 1
    for _, slots in values:
        for slot in slots:
            if slot not in numbers:
                while k in kept:
                    k += 1
                numbers[slot] = k
                k += 1
    return [placed(shape, [numbers[slot] for slot in slots]) for shape, slots in values]


def totals_of(rounds):
    """Return a bare set with the members ahead of each round, and behind the last one."""
    total = {}
    found = [bare_set({}, ((), ()))]
    for members in rounds:
        total = {**total, **members.orbits}
        found.append(bare_set(total, members.needs))
    return found


def place_of(stock, name, clauses, values, value, total):
    """Return (index of a clause, members, the own ones of them) for a place that gives a value, from members so far."""
    inner = {**values, name: total}
    for index, clause in enumerate(clauses):
        for place in places_with(stock, clause, inner, value):
            members = with_small_slots(place_members(clause, place), ascending(value[1]))
            return (index, members, [members[k] for k in own_places(name, clause)])
    return None


def derivation(stock, name, clauses, values, rounds, value):
    """Return the steps (value, index of a clause, members) of a paper for a value; None if no round adds it."""
    if turn_of(rounds, value) is None:
        return None
    totals = totals_of(rounds)
    plans = {}
    steps = {}
    waiting = [value]
    while waiting:
        top = waiting[-1]
        key = key_of(top)
        if key not in plans:
            plans[key] = place_of(stock, name, clauses, values, top, totals[turn_of(rounds, top) - 1])
        index, members, own = plans[key]
        missing = [member for member in own if key_of(member) not in steps]
        waiting.extend(list(missing))
        if not missing:
            steps[key] = (top, index, members)
            waiting.pop()
    return list(steps.values())


def known_node_value(stock, n, value):
    """Return the value and the text of a shown value of stock n, or None if it is none."""
    try:
        nodes, text, _ = checked_nodes(value, stock.known, n)
    except BadValue:
        return None
    return value_of_nodes(stock, nodes), text


def are_members(stock, name, clause, values, given, members):
    """Return the values with all patterns of a clause bound to these members, or None if they may not be chosen."""
    inner = values
    for (pattern, source), (member, text) in zip(clause[2], members):
        if source == ("var", name):
            if text not in given:
                return None
        elif not has(stock, tree_members(stock, source, inner), member):
            return None
        inner = bound_to(inner, pattern, member)
        if inner is None:
            return None
    return inner


def right_text(stock, n, name, clauses, values, given, step):
    """Return the text of the value of a step if it is right when the values with these texts are given, or None."""
    if not isinstance(step, tuple) or len(step) != 3:
        return None
    value, index, members = step
    if not is_whole(index) or not 0 <= index < len(clauses):
        return None
    clause = clauses[index]
    if not isinstance(members, tuple) or len(members) != len(clause[2]):
        return None
    told = known_node_value(stock, n, value)
    parts = [known_node_value(stock, n, member) for member in members]
    if told is None or any([part is None for part in parts]):
        return None
    inner = are_members(stock, name, clause, values, given, parts)
    if inner is None or not test_holds(stock, clause[3], inner):
        return None
    return told[1] if is_same(stock, tree_value(stock, clause[1], inner), told[0]) else None


def first_not_right(stock, n, name, clauses, values, paper, text):
    """Return the index of the first step that is not right, or -1 if all are and the last value has this text.

    If the last value has another one, it is the index behind the last step.
    """
    given = {}
    last = None
    for k, step in enumerate(paper):
        last = right_text(stock, n, name, clauses, values, given, step)
        if last is None:
            return k
        given[last] = True
    return -1 if last == text else len(paper)


def leaving_step(stock, name, clauses, values):
    """Return a step whose value is not in the family that the rule's name has, or None if there is none."""
    family = members_in(values[name])
    for index, clause in enumerate(clauses):
        for place, _ in gather_places(stock, clause, values, ()):
            value = tree_value(stock, clause[1], place)
            if not has(stock, family, value):
                found = with_small_slots([value] + place_members(clause, place), ())
                return (found[0], index, found[1:])
    return None
