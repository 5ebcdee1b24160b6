"""Courses: what a program does at every n, told by stretches of n on which it takes the same course."""

from everyname.checks import check_from, check_same_stock, is_whole, sorted_words
from everyname.outcomes import outcome_regions, pieces_tally, state_regions, variable_pieces
from everyname.regions import span_of, together, whole_region
from everyname.runs import check_tree, check_variable


class Stretch:
    """All n from lo to hi, or from lo on if hi is None, and how a program runs at each of them."""

    def __init__(self, lo, hi, outcome):
        self.lo = lo
        self.hi = hi
        self.course = outcome.course
        self.end = outcome.end
        self.entry = outcome.entry
        self.length = outcome.round_length()
        self.rounds = outcome.rounds

    def __contains__(self, x):
        return is_whole(x) and self.lo <= x and (self.hi is None or x <= self.hi)


def program_outcomes(program, most):
    """Return the regions with the Outcome of a program that is executed by itself."""
    return outcome_regions(program.known, whole_region(), program.variables, program.statements, most)


def stretches_of(outcomes):
    """Return the stretches of these outcomes, as few as possible."""
    found = []
    for low, high, _, outcome in outcomes:
        if found and found[-1][2].way() == outcome.way():
            found[-1] = (found[-1][0], high, outcome)
        else:
            found.append((low, high, outcome))
    return [Stretch(low, high, outcome) for low, high, outcome in found]


class Courses:
    """What a program does at every n; rows is the list of its stretches."""

    def __init__(self, program, *, most=60):
        check_from(most, 1)
        self.program = program
        self.most = most
        # What is done to the program or the rows later changes nothing of this.
        self._known = program.known
        self._variables = program.variables
        self._outcomes = program_outcomes(program, most)
        self.rows = stretches_of(self._outcomes)

    def __getitem__(self, at):
        check_from(at, 0)
        return [stretch for stretch in self.rows if stretch.lo <= at][-1]

    def __len__(self):
        return len(self.rows)

    def __iter__(self):
        return iter(self.rows)

    def span(self, test):
        """Return the Span of all n at which the test holds in the last state."""
        check_tree(test, "test", self._known, self._variables)
        return span_of(self._known, state_regions(self._outcomes), test)

    def least(self, test):
        """Return the least n at which the test does not hold in the last state, or None."""
        failing = ~self.span(test)
        return failing.least() if failing else None

    def tally(self, variable):
        """Return the Tally of the number of members of a variable in the last state."""
        check_variable(variable, self._variables)
        return pieces_tally(variable_pieces(self._outcomes, variable))

    def trials(self):
        """Return the least n of each different way to run, ascending."""
        found = {}
        for low, _, _, outcome in self._outcomes:
            found.setdefault(outcome.way(), low)
        return list(found.values())


def alike(program, other, *, most=60):
    """Return the least n at which a variable has other values, with the first such variable, or None."""
    check_same_stock(program.known, other.known)
    check_from(most, 1)
    outcomes, others = program_outcomes(program, most), program_outcomes(other, most)
    least = None
    names = {name: True for name in program.variables + other.variables}
    for name in sorted_words(names):
        regions = together({"a": variable_pieces(outcomes, name), "b": variable_pieces(others, name)})
        apart = ~span_of(program.known, regions, ("same", ("var", "a"), ("var", "b")))
        if apart and (least is None or apart.least() < least[0]):
            least = (apart.least(), name)
    return least
