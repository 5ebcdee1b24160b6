"""The errors of the package: one class for each kind of failure.

No error hands a message to its base: Python keeps what an error is made from already, so that
BadValue(3) is shown as BadValue(3).
"""


class EverynameError(ValueError):
    """Every error that the package raises by itself."""


class BadProgram(EverynameError):
    """A program breaks a rule; place is the path of the first wrong statement."""

    def __init__(self, place):
        self.place = place


class BadText(EverynameError):
    """A text is no text of a program or a page; line is the first wrong line."""

    def __init__(self, line):
        self.line = line


class BadValue(EverynameError):
    """An argument is not as described; shown is this argument, or the wrong part of it."""

    def __init__(self, shown):
        self.shown = shown


class OtherStock(EverynameError):
    """Two things have different known names; known and other are these names."""

    def __init__(self, known, other):
        self.known = known
        self.other = other


class TooMany(EverynameError):
    """A value is too large to be shown; amount is its size."""

    def __init__(self, amount):
        self.amount = amount


class NoVariable(EverynameError):
    """A program has no such state variable."""

    def __init__(self, variable):
        self.variable = variable


class NotExact(EverynameError):
    """A size has no quotient by the integer by."""

    def __init__(self, by):
        self.by = by


class EmptySpan(EverynameError):
    """An empty span has no least and no greatest member."""


class NoBound(EverynameError):
    """A tally has no least, or no greatest, value."""


class BadRenumbering(EverynameError):
    """numbers is no renumbering, or not one of the size that is needed."""

    def __init__(self, numbers):
        self.numbers = numbers


class BadName(EverynameError):
    """A name cannot be used in this place of a world."""

    def __init__(self, name):
        self.name = name


class BadRule(EverynameError):
    """A clause of the rule name is wrong; clause is its index, or -1 for all of them."""

    def __init__(self, name, clause):
        self.name = name
        self.clause = clause


class Restless(EverynameError):
    """A rule or a program does not come to rest at n; end tells how it ends."""

    def __init__(self, name, n, end):
        self.name = name
        self.n = n
        self.end = end


class Broken(EverynameError):
    """The guard name does not hold at n."""

    def __init__(self, name, n):
        self.name = name
        self.n = n


class NoSteps(EverynameError):
    """There is no step that can be taken back."""
