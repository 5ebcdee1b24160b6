"""Families: a value for every n."""

from everyname.amounts import weight_at
from everyname.checks import check_from, check_same_stock
from everyname.errors import BadProgram, BadValue
from everyname.orbits import members_in, members_many
from everyname.outcomes import at_known_pieces, empty_value, outcome_regions, pieces_tally, state_regions
from everyname.programs import Program
from everyname.reckoning import checked_nodes
from everyname.regions import (is_always, joined, listed_region, piece_at, region_at, solved, span_of, together,
                               value_pieces, whole_region)
from everyname.rows import row_value
from everyname.runs import check_tree
from everyname.shapes import mark_value
from everyname.showing import least_orbit, least_shown, shown_within
from everyname.spans import Span
from everyname.words import is_free_word

MOST = 60
FEW = 3
LISTABLE = 20000
LEFT = ("var", "a")
RIGHT = ("var", "b")


def made_family(known, pieces):
    """Return the family with these known names and pieces."""
    family = Family(Program(known), ("set",))
    family._pieces = pieces
    return family


def both_regions(family, other):
    """Return regions with the values of two families of one stock, called a and b."""
    check_same_stock(family.known, other.known)
    return together({"a": family._pieces, "b": other._pieces})


def combined(tag, family, other):
    """Return the pieces of what an expression with this tag makes of two families."""
    return value_pieces(family.known, both_regions(family, other), (tag, LEFT, RIGHT))


def own_regions(family):
    """Return regions with the values of a family, called a."""
    return together({"a": family._pieces})


def span_pieces(span):
    """Return pieces of a mark at each n of the span and of the empty set elsewhere."""
    parts = [(low, high, False, mark_value("a")) for low, high in span.stretches]
    parts = parts + [(low, high, False, empty_value()) for low, high in (~span).stretches]
    lows = {part[0]: part for part in parts}
    return tuple([lows[low] for low in sorted([int(place) for place in lows])])


class Family:
    """A value for every n: that of an expression in the last state of a program."""

    def __init__(self, program, e):
        check_tree(e, "expression", program.known, program.variables)
        self.known = program.known
        outcomes = outcome_regions(program.known, whole_region(), program.variables, program.statements, MOST)
        self._pieces = value_pieces(program.known, state_regions(outcomes), e)

    @classmethod
    def of(cls, known, e):
        """Return the family of an expression over these known names."""
        return cls(Program(known), e)

    def __call__(self, n, most=200):
        check_from(n, 0)
        return shown_within(n, piece_at(self._pieces, n)[3], most)

    def count(self, n):
        """Return the number of members at n."""
        check_from(n, 0)
        return row_value(members_many(members_in(piece_at(self._pieces, n)[3])), n)

    def has(self, n, value):
        """Tell whether a shown value is a member at n."""
        check_from(n, 0)
        nodes, _, others = checked_nodes(value, self.known, n)
        region = region_at(own_regions(self), n)
        # The orders of many others are gone through one by one; so it is quicker to list a small family.
        if not region[2] and FEW < len(others) and weight_at(region[3]["a"], n) <= LISTABLE:
            region = listed_region(n, region[3])
        return solved(self.known, [region], ("has", nodes))[0][3]

    @property
    def sizes(self):
        """The Tally of the numbers of members."""
        return pieces_tally(self._pieces)

    def span(self):
        """Return the Span of all n at which there is a member."""
        return Span([(low, high) for low, high, _, value in self._pieces if members_in(value).orbits])

    def __bool__(self):
        return any([bool(members_in(piece[3]).orbits) for piece in self._pieces])

    def __or__(self, other):
        if not isinstance(other, Family):
            return NotImplemented
        return made_family(self.known, combined("union", self, other))

    def __and__(self, other):
        if not isinstance(other, Family):
            return NotImplemented
        return made_family(self.known, combined("meet", self, other))

    def __sub__(self, other):
        if not isinstance(other, Family):
            return NotImplemented
        return made_family(self.known, combined("without", self, other))

    def __xor__(self, other):
        if not isinstance(other, Family):
            return NotImplemented
        return made_family(self.known, combined("either", self, other))

    def __ior__(self, other):
        if not isinstance(other, Family):
            return NotImplemented
        self._pieces = combined("union", self, other)
        return self

    def __iand__(self, other):
        if not isinstance(other, Family):
            return NotImplemented
        self._pieces = combined("meet", self, other)
        return self

    def __isub__(self, other):
        if not isinstance(other, Family):
            return NotImplemented
        self._pieces = combined("without", self, other)
        return self

    def __ixor__(self, other):
        if not isinstance(other, Family):
            return NotImplemented
        self._pieces = combined("either", self, other)
        return self

    def __ror__(self, other):
        if not isinstance(other, str) or other not in self.known:
            raise BadValue(other)
        e = ("union", LEFT, ("set", ("known", other)))
        return made_family(self.known, value_pieces(self.known, own_regions(self), e))

    def __contains__(self, x):
        nodes, _, _ = checked_nodes(x, self.known, 0)
        return all([holds for _, _, _, holds in solved(self.known, own_regions(self), ("has", nodes))])

    def __eq__(self, other):
        if not isinstance(other, Family):
            return False
        return is_always(self.known, both_regions(self, other), ("same", LEFT, RIGHT))

    def __le__(self, other):
        if not isinstance(other, Family):
            return NotImplemented
        return is_always(self.known, both_regions(self, other), ("within", LEFT, RIGHT))

    def __lt__(self, other):
        if not isinstance(other, Family):
            return NotImplemented
        regions = both_regions(self, other)
        return (is_always(self.known, regions, ("within", LEFT, RIGHT))
                and not is_always(self.known, regions, ("same", LEFT, RIGHT)))

    def __ge__(self, other):
        if not isinstance(other, Family):
            return NotImplemented
        return is_always(self.known, both_regions(self, other), ("within", RIGHT, LEFT))

    def __gt__(self, other):
        if not isinstance(other, Family):
            return NotImplemented
        regions = both_regions(self, other)
        return (is_always(self.known, regions, ("within", RIGHT, LEFT))
                and not is_always(self.known, regions, ("same", LEFT, RIGHT)))

    def only(self, span):
        """Return the family with the same values at each n of the span, and the empty set elsewhere."""
        regions = together({"a": self._pieces, "b": span_pieces(span)})
        empty = empty_value()
        found = [(low, high, listed, values["a"] if values["b"][0].kind == "leaf" else empty)
                 for low, high, listed, values in regions]
        return made_family(self.known, joined(found))

    def at_known(self, word):
        """Return the family in whose stock one of the others is a further known name."""
        if not is_free_word(word) or word in self.known:
            raise BadProgram(())
        return made_family(self.known + (word,), at_known_pieces(self.known, self._pieces, word))

    def apart(self, other, most=200):
        """Return the least n at which two families differ, with a member of one of them alone; None if none is."""
        regions = both_regions(self, other)
        span = ~span_of(self.known, regions, ("same", LEFT, RIGHT))
        if not span:
            return None
        n = span.least()
        left, right = solved(self.known, [region_at(regions, n)], ("apart",))[0][3]
        first = not right or (bool(left) and least_orbit(n, left)[0] <= least_orbit(n, right)[0])
        value = least_shown(n, left if first else right, most)
        return (n, None, None) if value is None else (n, value, first)
