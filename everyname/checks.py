"""Checks of integers that are passed. True and False are no integers in this package."""

from everyname.errors import BadValue


def is_whole(value):
    """Tell whether value is an integer."""
    return isinstance(value, int) and not isinstance(value, bool)


def check_whole(value):
    """Raise BadValue if value is not an integer."""
    if not is_whole(value):
        raise BadValue(value)


def check_from(value, bound):
    """Raise BadValue if value is not an integer that is bound or greater."""
    if not is_whole(value) or value < bound:
        raise BadValue(value)


def check_wholes(values):
    """Raise BadValue with all the values if they are no list or tuple of integers."""
    if not isinstance(values, (list, tuple)) or not all([is_whole(value) for value in values]):
        raise BadValue(values)
