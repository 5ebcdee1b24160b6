"""Picks: rules that pick one member out of each member of a family."""

from everyname.pairings import answer_of
from everyname.regions import together, value_pieces

MEMBERS = ("join", ("var", "x"))
MEMBERSHIP = ("gather", ("row", ("var", "t"), ("var", "v")), (("t", ("var", "x")), ("v", ("var", "t"))), ("true",))


def picks(s):
    """Return the Answer to the question whether one member can be picked out of each member of s."""
    regions = together({"x": s._pieces})
    tables = {"x": s._pieces, "y": value_pieces(s.known, regions, MEMBERS),
              "w": value_pieces(s.known, regions, MEMBERSHIP)}
    return answer_of(s.known, tables, False, False)
