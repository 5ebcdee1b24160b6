"""Forms: the one normal pattern as which a family reads from some n on."""

from everyname.checks import check_from, sorted_words
from everyname.families import LEFT, RIGHT, made_family
from everyname.groups import sorted_rows
from everyname.naming import unnamed
from everyname.orbits import members_in
from everyname.patterns import pattern_of
from everyname.regions import joined, piece_at, settled_from, solved, span_of, together
from everyname.shapes import Split, Stock
from everyname.showing import shown_within
from everyname.sizes import Size


def is_dependent(known, value, word):
    """Tell whether, from some n on, a value changes if the known name word is exchanged with an other."""
    rest = tuple([other for other in known if other != word])
    low = 1
    while True:
        try:
            return len(unnamed(Stock(rest, None, low, None), value, word, 0)[1]) > 0
        except Split as seam:
            low = seam.at


def reading_pieces(known, value, pattern):
    """Return the pieces of the reading of a value's pattern."""
    return joined(solved(known, [(0, None, False, {"a": value})], ("reading", pattern)))


def first_alike(known, pieces, others):
    """Return the least m such that the pieces have the same values for all n from m on."""
    return settled_from(span_of(known, together({"a": pieces, "b": others}), ("same", LEFT, RIGHT)))


class Form:
    """The normal pattern of a family, from which n on it holds, and how its slots may be renumbered."""

    def __init__(self, known, pieces):
        value = pieces[-1][3]
        self.known = known
        self.pattern = pattern_of(value, 0)
        self._key = value[0].key
        self._pieces = reading_pieces(known, value, self.pattern)
        self.start = first_alike(known, pieces, self._pieces)
        self.groups = tuple([sorted_rows(shape.turns) for shape, _ in members_in(value).orbits.values()])
        self.depends = tuple([word for word in known if is_dependent(known, value, word)])

    @property
    def sorts(self):
        """The pairs (own slots, renumberings in the group) of the items, ascending."""
        pairs = [(len(group[0]), len(group)) for group in self.groups]
        return tuple([pair for pair in sorted_rows(pairs) for other in pairs if other == pair])

    @property
    def size(self):
        """The Size that is the number of members from some n on."""
        found = Size()
        for group in self.groups:
            found = found + Size.falling(len(group[0])) // len(group)
        return found

    @property
    def text(self):
        """A text that is the same for equal forms over the same known names, and for these only."""
        return self._key

    def __len__(self):
        return len(self.groups)

    def __call__(self, n, most=200):
        check_from(n, 0)
        return shown_within(n, piece_at(self._pieces, n)[3], most)

    def family(self):
        """Return the family whose value at every n is the reading of the pattern."""
        return made_family(self.known, self._pieces)

    def __eq__(self, other):
        return isinstance(other, Form) and self.known == other.known and self._key == other._key


def form(family):
    """Return the form of a family."""
    return Form(sorted_words(family.known), family._pieces)
