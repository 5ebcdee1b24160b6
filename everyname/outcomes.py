"""What programs do at every n: regions with their outcomes, and the pieces of their variables."""

from everyname.orbits import members_in, members_many, no_members, set_value
from everyname.regions import joined, solved
from everyname.sizes import Size
from everyname.steps import steps_of
from everyname.tallies import Tally


def empty_value():
    """Return the empty set."""
    return set_value(no_members())


def empty_pieces():
    """Return the pieces of the empty set at every n."""
    return ((0, None, False, empty_value()),)


def outcome_regions(known, regions, variables, statements, most):
    """Return the regions with the Outcome of statements that begin with the values in these regions."""
    return solved(known, regions, ("run", variables, steps_of(statements), most))


def state_regions(outcomes):
    """Return the regions with the last states of these outcomes."""
    return [(low, high, listed, outcome.state) for low, high, listed, outcome in outcomes]


def variable_pieces(outcomes, name):
    """Return the pieces of a variable; those of the empty set if the program does not have it."""
    empty = empty_value()
    return joined([(low, high, listed, outcome.state.get(name, empty)) for low, high, listed, outcome in outcomes])


def pieces_tally(pieces):
    """Return the Tally of the numbers of members."""
    return Tally([(low, Size(members_many(members_in(value)))) for low, _, _, value in pieces])


def at_known_pieces(known, pieces, word):
    """Return the pieces of a family in whose stock one of the others has become the known name word."""
    regions = [(max(low, 1), high, listed, {"a": value}) for low, high, listed, value in pieces if high != 0]
    return joined([(low - 1, None if high is None else high - 1, listed, value)
                   for low, high, listed, value in solved(known, regions, ("named", word))])
