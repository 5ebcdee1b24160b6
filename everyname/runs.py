"""Runs of programs over a stock, however many others it has."""

from everyname.checks import check_from
from everyname.errors import BadProgram, NoVariable
from everyname.meaning import test_holds
from everyname.orbits import chosen, members_in, members_many
from everyname.rows import row_value
from everyname.shapes import Tight, alike_stock, listed_stock
from everyname.showing import least_shown, shown_within
from everyname.steps import executed, steps_of
from everyname.trees import free_names, is_tree


def check_variable(variable, variables):
    """Raise NoVariable if variable is none of the state variables."""
    if variable not in variables:
        raise NoVariable(variable)


def check_tree(tree, kind, known, variables):
    """Raise BadProgram or NoVariable if tree is none of this kind over these known names and state variables."""
    if not is_tree(tree, kind, known):
        raise BadProgram(())
    for name in sorted([str(name) for name in free_names(tree)]):
        check_variable(name, variables)


def missing(stock, state, a, b):
    """Return the members of the value of a that are not members of the value of b, as orbits."""
    return list(chosen(stock, members_in(state[a]), members_in(state[b]), False).orbits.values())


class Run:
    """What a program does at n: how it ends, the course that it takes, and its last state."""

    def __init__(self, program, n, most):
        self.program = program
        self.n = n
        self.most = most
        # What is done to the program later does not change the run.
        self._variables = program.variables
        self._steps = steps_of(program.statements)
        self._stock = alike_stock(program.known, n, n)
        try:
            outcome = executed(self._stock, self._variables, self._steps, most, {})
        except Tight:
            self._stock = listed_stock(program.known, n)
            outcome = executed(self._stock, self._variables, self._steps, most, {})
        self._state = outcome.state
        self.end = outcome.end
        self.entry = outcome.entry
        self.length = outcome.round_length()
        self.rounds = outcome.rounds
        self.course = outcome.course

    def _listed(self):
        """Return the stock with listed others and the last state over it."""
        stock = listed_stock(self._stock.known, self.n)
        return stock, executed(stock, self._variables, self._steps, self.most, {}).state

    def count(self, variable):
        """Return the number of members of the variable's value in the last state."""
        check_variable(variable, self._variables)
        return row_value(members_many(members_in(self._state[variable])), self.n)

    def holds(self, test):
        """Tell whether the test holds in the last state."""
        check_tree(test, "test", self._stock.known, self._variables)
        try:
            return test_holds(self._stock, test, self._state)
        except Tight:
            stock, state = self._listed()
            return test_holds(stock, test, state)

    def value(self, variable, *, most=200):
        """Return the shown value of the variable in the last state."""
        check_variable(variable, self._variables)
        value = self._state[variable]
        return shown_within(self.n, value, most)

    def part(self, a, b, *, most=200):
        """Return a shown member of the value of a that is none of the value of b; None if there is none."""
        check_variable(a, self._variables)
        check_variable(b, self._variables)
        stock = self._stock
        try:
            found = missing(stock, self._state, a, b)
        except Tight:
            stock, state = self._listed()
            found = missing(stock, state, a, b)
        return least_shown(self.n, found, most)


def run(program, n, *, most=60):
    """Execute the program over the stock with n others."""
    check_from(n, 0)
    check_from(most, 1)
    return Run(program, n, most)
