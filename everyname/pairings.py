"""Pairings: families that give each member of one family a partner in another one, from some n on."""

from everyname.checks import check_from, check_same_stock
from everyname.families import made_family
from everyname.forms import reading_pieces
from everyname.orbits import made_members, set_value
from everyname.patterns import pattern_of
from everyname.regions import eventually, region_at, settled_from, solved, span_of, together
from everyname.shapes import orbit
from everyname.spans import Span

# The first and the second parts of the rows of two values in m.
FIRSTS = ("gather", ("var", "a"), ((("a", "b"), ("var", "m")),), ("true",))
SECONDS = ("gather", ("var", "b"), ((("a", "b"), ("var", "m")),), ("true",))


def check_stocks(x, y, within):
    """Raise OtherStock if y or within has other known names than x."""
    check_same_stock(x.known, y.known)
    if within is not None:
        check_same_stock(x.known, within.known)


def tables_of(x, y, within):
    """Return the pieces of these families, called x, y and w."""
    found = {"x": x._pieces, "y": y._pieces}
    return found if within is None else {**found, "w": within._pieces}


def pairing_tests(one, onto, bounded):
    """Return tests that hold where the members of m, rows of two values, are a pairing of x and y."""
    x, y, m = ("var", "x"), ("var", "y"), ("var", "m")
    tests = [("within", FIRSTS, x), ("within", x, FIRSTS), ("within", SECONDS, y),
             ("compare", ("count", FIRSTS), "==", ("count", m))]
    if one:
        tests.append(("compare", ("count", SECONDS), "==", ("count", m)))
    if onto:
        tests.append(("within", y, SECONDS))
    if bounded:
        tests.append(("within", m, ("var", "w")))
    return tests


def pairing_span(known, tables, one, onto):
    """Return the Span of all n at which the rows in m are a pairing."""
    regions = together(tables)
    span = Span.since(0)
    for test in pairing_tests(one, onto, "w" in tables):
        span = span & span_of(known, regions, test)
    return span


def stuck_span(known, tables, told, one, onto):
    """Return the Span of all n at which a Stuck shows that there is no pairing."""
    found = solved(known, together(tables), ("shows", told, one, onto))
    return Span([(low, high) for low, high, _, number in found if number == 0])


class Stuck:
    """A reason why there is no pairing; see shows for what it has to keep."""

    def __init__(self, side, crowd, fewer, moves):
        self.side = side
        self.crowd = crowd
        self.fewer = fewer
        self.moves = moves

    def shows(self, x, y, n, *, one=False, onto=False, within=None):
        """Return 0 if this shows that there is no pairing at n, and else the number of the first wrong condition."""
        check_stocks(x, y, within)
        check_from(n, 0)
        region = region_at(together(tables_of(x, y, within)), n)
        told = (self.side, self.crowd, self.fewer, self.moves)
        return solved(x.known, [region], ("shows", told, one, onto))[0][3]


class Answer:
    """Whether there is a pairing: pairs is one, and stuck a reason why there is none, from start on."""

    def __init__(self, found, pairs, start, stuck):
        self.found = found
        self.pairs = pairs
        self.start = start
        self.stuck = stuck


def answer_of(known, tables, one, onto):
    """Return the Answer for pieces called x, y and perhaps w."""
    rows, told = eventually(known, together(tables)[-1], ("pairing", one, onto))
    if rows is None:
        return Answer(False, None, settled_from(stuck_span(known, tables, told, one, onto)), Stuck(*told))
    value = set_value(made_members((), [orbit(row, ()) for row in rows]))
    pieces = reading_pieces(known, value, pattern_of(value, 0))
    start = settled_from(pairing_span(known, {**tables, "m": pieces}, one, onto))
    return Answer(True, made_family(known, pieces), start, None)


def pairing(x, y, *, one=False, onto=False, within=None):
    """Return the Answer to the question whether there is a pairing of x and y from some n on."""
    check_stocks(x, y, within)
    return answer_of(x.known, tables_of(x, y, within), one, onto)
