"""Moments: what a world is between two of its steps. A moment is never changed; each step makes a new one.

A rule is a pair (name, clauses) and a guard a triple (name, test, before).
"""

from everyname.checks import sorted_words
from everyname.errors import BadName, Broken, OtherStock, Restless
from everyname.outcomes import at_known_pieces, empty_pieces, variable_pieces
from everyname.regions import joined, solved, span_of, together
from everyname.shapes import key_of
from everyname.steps import steps_of
from everyname.trees import assigned_names, bound_names, free_names, state_names, trees_in


class Moment:
    """The known names, told families, rules, ruled families, guards and the number allowed.

    told and ruled are the pieces of the families by their names.
    """

    def __init__(self, known, told, rules, ruled, guards, limit):
        self.known = known
        self.told = told
        self.rules = rules
        self.ruled = ruled
        self.guards = guards
        self.limit = limit


def family_pieces(moment, name):
    """Return the pieces of the family of a name."""
    if name in moment.ruled:
        return moment.ruled[name]
    return moment.told[name] if name in moment.told else empty_pieces()


def tables_of(moment, names):
    """Return the pieces of the families of these names."""
    return {name: family_pieces(moment, name) for name in names}


def same_pieces(pieces, others):
    """Tell whether two families are told by the same pieces."""
    return [(low, listed, key_of(value)) for low, _, listed, value in pieces] == [
        (low, listed, key_of(value)) for low, _, listed, value in others]


def are_unchanged(now, then, names):
    """Tell whether the families of these names are the same in two moments, as far as their pieces tell."""
    return now.known == then.known and all(
        [same_pieces(family_pieces(now, name), family_pieces(then, name)) for name in names])


def names_read(name, clauses):
    """Return the names that the clauses of a rule read, but for its own."""
    found = {}
    for clause in clauses:
        found = {**found, **free_names(clause)}
    return [other for other in found if other != name]


def rule_pieces(moment, name, clauses):
    """Return the pieces of a rule's family; raise Restless if it does not come to rest at some n."""
    regions = together(tables_of(moment, names_read(name, clauses)))
    found = solved(moment.known, regions, ("rule", name, clauses, moment.limit))
    for low, _, _, value in found:
        if value is None:
            raise Restless(name, low, "many")
    return joined(found)


def with_rules(moment, then):
    """Return the moment with the families of its rules; then is the moment ahead of it."""
    found = Moment(moment.known, moment.told, moment.rules, {}, moment.guards, moment.limit)
    for name, clauses in moment.rules:
        names = names_read(name, clauses)
        # What a rule has read before gives the same again.
        if (name, clauses) in then.rules and moment.limit == then.limit and are_unchanged(found, then, names):
            pieces = then.ruled[name]
        else:
            pieces = rule_pieces(found, name, clauses)
        ruled = {**found.ruled, name: pieces}
        found = Moment(moment.known, moment.told, moment.rules, ruled, moment.guards, moment.limit)
    return found


def failing_span(now, then, guard):
    """Return the Span of all n at which a guard does not hold, where then is the moment ahead of the step."""
    _, test, before = guard
    pasts = {past: name for past, name in before}
    tables = {}
    for name in free_names(test):
        tables[name] = family_pieces(then, pasts[name]) if name in pasts else family_pieces(now, name)
    return ~span_of(now.known, together(tables), test)


def check_guards(now, then):
    """Raise Broken if a guard does not hold at some n."""
    for guard in now.guards:
        name, test, before = guard
        # A guard that has held before holds again, if nothing changes that it looks at.
        if before or guard not in then.guards or not are_unchanged(now, then, list(free_names(test))):
            failing = failing_span(now, then, guard)
            if failing:
                raise Broken(name, failing.least())


def check_program(moment, program):
    """Raise OtherStock or BadName if a program may not be executed in a world."""
    if any([word not in moment.known for word in program.known]):
        raise OtherStock(sorted_words(moment.known), sorted_words(program.known))
    rows = program.statements
    wrong = {name: True for name in state_names(rows) if name in moment.known}
    for tree in trees_in(rows):
        wrong = {**wrong, **{name: True for name in bound_names(tree) if name in moment.known}}
    rule_names = [name for name, _ in moment.rules]
    wrong = {**wrong, **{name: True for name in assigned_names(rows) if name in rule_names}}
    if wrong:
        raise BadName(sorted_words(wrong)[0])


def executed_told(moment, rows):
    """Return the told families behind statements; raise Restless if they do not come to rest at some n."""
    names = sorted_words(state_names(rows))
    regions = together(tables_of(moment, names))
    outcomes = solved(moment.known, regions, ("do", names, steps_of(rows), moment.limit))
    for low, _, _, outcome in outcomes:
        if outcome.end != "rests":
            raise Restless("", low, outcome.end)
    return {**moment.told, **{name: variable_pieces(outcomes, name) for name in assigned_names(rows)}}


def done_moment(moment, program):
    """Return the moment behind a program, with its rules; whether its guards hold is left open."""
    check_program(moment, program)
    told = executed_told(moment, program.statements)
    return with_rules(Moment(moment.known, told, moment.rules, {}, moment.guards, moment.limit), moment)


def knowing_moment(moment, word):
    """Return the moment in which one of the others has become a known name."""
    told = {name: at_known_pieces(moment.known, moment.told[name], word) for name in moment.told}
    known = moment.known + (word,)
    return with_rules(Moment(known, told, moment.rules, {}, moment.guards, moment.limit), moment)
