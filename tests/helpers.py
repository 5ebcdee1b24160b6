"""What several test files use: reading trees, and checking what is raised."""

import unittest

import plain
from everyname import errors
from everyname.families import Family
from everyname.programs import Program
from everyname.reading import read_whole

FAR, FARTHER = 10 ** 60, 10 ** 300
ATTRIBUTES = {"BadProgram": "place", "BadText": "line", "BadValue": "shown", "TooMany": "amount", "NoVariable": "variable",
              "BadRenumbering": "numbers", "BadName": "name"}


def program(*lines, known="known ann"):
    return Program.read("\n".join((known,) + lines))


def tree(text, known=()):
    """The expression with this text."""
    return read_whole(text, "expression", known)


def check(text, known=()):
    """The test with this text."""
    return read_whole(text, "test", known)


def family(text, *known):
    """The family of an expression."""
    return Family.of(known, tree(text, known))


def plain_value(text, known, n):
    """The value of an expression by plain loops."""
    return plain.Plain(known, n).value(tree(text, known), {})


def as_shown(value):
    """A plain value as a shown one."""
    if value[0] in ("row", "set"):
        return (value[0], tuple(map(as_shown, value[1])))
    return value


class RaisingTestCase(unittest.TestCase):
    def assertRaisesJust(self, kind, shown, call, *given, **named):
        """Check that a call raises an error of this very class with these attributes."""
        with self.assertRaises(getattr(errors, kind)) as caught:
            call(*given, **named)
        self.assertIs(type(caught.exception), getattr(errors, kind))
        found = vars(caught.exception)
        if kind in ATTRIBUTES:
            shown = {ATTRIBUTES[kind]: shown}
        self.assertEqual(found, shown)
        self.assertEqual({name: type(worth) for name, worth in found.items()},
                         {name: type(worth) for name, worth in shown.items()})

    def assertOther(self, known, other, call, *given, **named):
        self.assertRaisesJust("OtherStock", {"known": known, "other": other}, call, *given, **named)

    def assertShown(self, found, value):
        """Check that a shown value is this plain one."""
        self.assertEqual(plain.from_shown(found), value)
