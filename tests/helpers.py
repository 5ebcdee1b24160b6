"""What several test files use: reading trees, and checking what is raised."""

import itertools
import unittest

import plain
from everyname import errors
from everyname.families import Family
from everyname.programs import Program
from everyname.reading import read_whole

FAR, FARTHER = 10 ** 60, 10 ** 300
ATTRIBUTES = {"BadProgram": "place", "BadText": "line", "BadValue": "shown", "TooMany": "amount", "NoVariable": "variable",
              "BadRenumbering": "numbers", "BadName": "name"}


def program(*lines, known="known ann"):
    return Program.read("\n".join((known,) + lines))


def tree(text, known=()):
    """The expression with this text."""
    return read_whole(text, "expression", known)


def check(text, known=()):
    """The test with this text."""
    return read_whole(text, "test", known)


def family(text, *known):
    """The family of an expression."""
    return Family.of(known, tree(text, known))


def plain_value(text, known, n):
    """The value of an expression by plain loops."""
    return plain.Plain(known, n).value(tree(text, known), {})


def as_shown(value):
    """A plain value as a shown one."""
    if value[0] in ("row", "set"):
        return (value[0], tuple(map(as_shown, value[1])))
    return value


def filled(slots, many, n):
    """The fillings of many further slots."""
    free = [k for k in range(1, n + 1) if k not in slots]
    return [slots + further for further in itertools.permutations(free, many)]


def read(pattern, slots, n):
    """The reading of a pattern, by plain loops."""
    kind, told = pattern
    if kind == "slot":
        return ("other", slots[told])
    if kind == "row":
        return ("row", tuple(read(part, slots, n) for part in told))
    if kind == "set":
        return ("set", frozenset(read(p, longer, n) for k, p in told for longer in filled(slots, k, n)))
    return pattern


def sets_in(pattern, many=0):
    """The items of each set in a pattern, with the number of slots around it."""
    kind, told = pattern
    if kind == "row":
        for part in told:
            yield from sets_in(part, many)
    elif kind == "set":
        yield many, told
        for k, p in told:
            yield from sets_in(p, many + k)


class RaisingTestCase(unittest.TestCase):
    def assertRaisesJust(self, kind, shown, call, *given, **named):
        """Check that a call raises an error of this very class with these attributes."""
        with self.assertRaises(getattr(errors, kind)) as caught:
            call(*given, **named)
        self.assertIs(type(caught.exception), getattr(errors, kind))
        found = vars(caught.exception)
        if kind in ATTRIBUTES:
            shown = {ATTRIBUTES[kind]: shown}
        self.assertEqual(found, shown)
        self.assertEqual({name: type(worth) for name, worth in found.items()},
                         {name: type(worth) for name, worth in shown.items()})

    def assertOther(self, known, other, call, *given, **named):
        self.assertRaisesJust("OtherStock", {"known": known, "other": other}, call, *given, **named)

    def assertShown(self, found, value):
        """Check that a shown value is this plain one."""
        self.assertEqual(plain.from_shown(found), value)
