"""Values over a stock, told without listing the others in them.

A value is a pair (shape, slots). The shape tells how it is built, with labels 0, 1, .. in the place of
the others on which it depends; slots tells which other stands for each label. Inside an evaluation an
other is a slot, an integer from 0 on, and different slots are different others; nothing else is known
of them. So the row [u, all] has a shape with one label and the set `all` a shape without any.

Shapes are in one form: two values are equal if their shapes have equal keys and their slots are equal,
as long as there are enough others (check_apart). The turns of a shape are the orders in which its slots
may also stand; slots are kept in the least of them. An own slot of a set, -1, -2, .., stands for every
other that is not among the slots of the set (see everyname/orbits.py).
"""


from math import factorial

from everyname.digits import decimal
from everyname.rows import row_ahead
from everyname.spelling import spelled


class Tight(ValueError):
    """There may be too few others for telling values apart by their shapes."""


class Split(ValueError):
    """Something is not the same for every n of a stock, but is up to the n just below at, or from at on."""

    def __init__(self, at):
        self.at = at


class Stock:
    """The known names and the others, for all n from low to high at once; high is None if there is no end.

    Where nothing is known of the others, listed is None. Otherwise listed is their number, each one is told
    by its own number from 1 on, and low and high are 0, because there are no further ones. shift is what is
    added to an n of this stock where a Split tells it.
    """

    def __init__(self, known, listed, low, high, shift=0):
        self.known = known
        self.listed = listed
        self.low = low
        self.high = high
        self.shift = shift


def alike_stock(known, low, high):
    """Return the stock for all n from low to high in which nothing is known of the others."""
    return Stock(known, None, low, high)


def listed_stock(known, n):
    """Return the stock in which the n others are listed, for the few of them that are too few for shapes."""
    return Stock(known, n, 0, 0)


def at_least(stock, bound):
    """Tell whether there are at least so many others of which nothing is known."""
    if stock.low >= bound:
        return True
    if stock.high is not None and stock.high < bound:
        return False
    raise Split(bound + stock.shift)


def most_own(stock, around, many):
    """Return how many of so many own slots there can be besides the slots around, or more than many."""
    free = stock.low - len(around)
    if free >= many or stock.low == stock.high:
        return free
    raise Split(stock.low + 1 + stock.shift)


class Shape:
    """How a value is built.

    kind is "leaf" (a name or a mark; parts is what it is shown as), "slot" (any other), "row" (parts
    are its parts, with labels for slots) or "set" (parts are its orbits by their keys, with labels for
    slots). needs are its needs, and inner those of the members of a set (see joined_needs). lines are
    those of its key, if it has any (see everyname/spelling.py).
    """

    def __init__(self, kind, key, turns, parts, needs, inner, lines=()):
        self.kind = kind
        self.key = key
        self.turns = turns
        self.parts = parts
        self.needs = needs
        self.inner = inner
        self.lines = lines


def leaf(kind, told, key):
    """Return the value of a name or a mark that is shown as (kind, told)."""
    return (Shape("leaf", key, ((),), (kind, told), ((), ()), ((), ())), ())


def known_value(word):
    """Return the value of a known name."""
    return leaf("known", word, word)


def mark_value(word):
    """Return the value of a mark."""
    return leaf("mark", word, "'" + word + "'")


def listed_value(k):
    """Return the value of the listed other k."""
    return leaf("other", k, "#" + decimal(k))


def slot_shape():
    """Return the shape of an other that is told by a slot."""
    return Shape("slot", "@", ((0,),), (), ((), ()), ((), ()))


def slot_value(slot):
    """Return the value of the other for which a slot stands."""
    return (slot_shape(), (slot,))


def key_of(value):
    """Return the key of a value, the same for equal values only."""
    shape, slots = value
    return (shape.key, slots)


def joined_needs(several):
    """Return several needs as one.

    Needs are two tuples: one for sets that are compared with each other, one for all sets inside these.
    Each has a triple for each set: on how many others it depends, how many own slots its orbits have at
    most, and how many of the others at most may be exchanged with each other.
    """
    outer = {}
    inner = {}
    for needs in {needs: True for needs in several}:
        for triple in needs[0]:
            outer[triple] = True
        for triple in needs[1]:
            inner[triple] = True
    return (tuple(outer), tuple(inner))


def needs_of(values):
    """Return the needs of values that are compared with each other."""
    return joined_needs([shape.needs for shape, _ in values])


def enough_for(triple, other):
    """Return a number of others that is enough for telling two sets with these needs apart by their keys.

    The members are told apart, too, which is asked for by itself. Let the keys of sets A and B differ, and let
    them depend on the others in S and Z. Then their orbits around S and Z differ, and an orbit has members if
    there are enough others for its own slots. That is one bound; the other one looks at S and Z. If there are
    enough others for the orbits around S and one more, A changes if one of S is exchanged with one that is
    not in S, and two of S may be exchanged only if the key says so. So if A and B are equal, but S and Z are not,
    then each other is in S or Z, and those in one alone may be exchanged with each other in A and in B.
    """
    many, own, alike = triple
    another, further, others_alike = other
    if own == 0 and further == 0:
        return 0
    apart = min(int(another + alike), int(many + others_alike))
    each = 1 + max(int(apart), int(many + own), int(another + further))
    return min(int(each), int(many + another) + max(int(own), int(further)))


def enough(needs):
    """Return a number of others that is enough for telling values with these needs apart by their keys."""
    most = 0
    for triples in needs:
        for triple in triples:
            for other in triples:
                bound = enough_for(triple, other)
                if bound > most:
                    most = bound
    return most


def most_alike(turns):
    """Return how many labels at most may be exchanged with each other in a shape with these turns."""
    many = len(turns[0])
    if len(turns) == 1:
        return 1 if many > 0 else 0
    table = {turn: True for turn in turns}
    most = 1
    for k in range(many):
        alike = [j for j in range(many) if j == k or exchange(many, j, k) in table]
        if len(alike) > most:
            most = len(alike)
    return most


def exchange(many, j, k):
    """Return the order of so many labels in which two of them are exchanged."""
    return tuple([k if label == j else j if label == k else label for label in range(many)])


def are_apart(stock, needs):
    """Tell whether values with these needs surely differ if their keys do."""
    if stock.listed is not None:
        return True
    return at_least(stock, enough(needs))


def check_apart(stock, needs):
    """Raise Tight if values with these needs may be equal though their keys differ."""
    if not are_apart(stock, needs):
        raise Tight()


def placed(shape, slots):
    """Return the value with this shape and these slots, in the least order."""
    least = tuple(slots)
    if len(shape.turns) > 1:
        for turn in shape.turns:
            order = tuple([slots[k] for k in turn])
            if order < least:
                least = order
    return (shape, least)


def own_numbered(slots, around):
    """Return the slots with -1, -2, .. for those that are not in around, by their first places."""
    names = {}
    found = []
    for slot in slots:
        if slot in around:
            found.append(slot)
        else:
            if slot not in names:
                names[slot] = -1 - len(names)
            found.append(names[slot])
    return tuple(found)


def orbit(value, around):
    """Return the orbit of a value: the value with own slots, in the least order, for all not in around."""
    shape, slots = value
    if not slots:
        return (shape, ())
    least = None
    for turn in shape.turns:
        order = own_numbered([slots[k] for k in turn], around)
        if least is None or order < least:
            least = order
    return (shape, least)


def own_many(slots):
    """Return how many own slots there are."""
    return len({slot for slot in slots if slot < 0}) if slots else 0


def orbit_row(value, around):
    """Return the row of the number of values in an orbit."""
    shape, slots = value
    many = own_many(slots)
    if many == 0:
        return (1,)
    same = [True for turn in shape.turns if own_numbered([slots[k] for k in turn], around) == slots]
    return tuple([count // len(same) for count in row_ahead([0] * many + [factorial(many)], -len(around))])


def row_parts(value):
    """Return the values that are the parts of a row."""
    shape, slots = value
    return [placed(inner, [slots[label] for label in labels]) for inner, labels in shape.parts]


def least_labels(shape, slots, orders):
    """Return the least labels that slots get behind these orders of slots, and the orders that give them.

    An order tells which slot has which label; slots that are not in it yet get the next labels.
    """
    least = None
    kept = []
    for order in orders:
        for turn in shape.turns:
            turned = [slots[k] for k in turn]
            longer = order + tuple([slot for slot in turned if slot not in order])
            labels = tuple([longer.index(slot) for slot in turned])
            if least is None or labels < least:
                least = labels
                kept = [longer]
            elif labels == least:
                kept = kept + [longer]
    return least, kept


def turns_of(orders):
    """Return the turns of a shape whose labels may stand for the slots in each of these orders."""
    first = orders[0]
    return tuple([tuple([first.index(slot) for slot in order]) for order in orders])


def row_value(values):
    """Return the row of the values."""
    orders = [()]
    parts = ()
    for shape, slots in values:
        labels, orders = least_labels(shape, slots, orders)
        parts = parts + ((shape, labels),)
    key, lines = spelled("[", parts, "]")
    return placed(Shape("row", key, turns_of(orders), parts, needs_of(values), ((), ()), lines), orders[0])
