"""Checks of integers and of known names that are passed. True and False are no integers in this package."""

from everyname.errors import BadValue, OtherStock


def is_whole(value):
    """Tell whether value is an integer."""
    return isinstance(value, int) and not isinstance(value, bool)


def check_whole(value):
    """Raise BadValue if value is not an integer."""
    if not is_whole(value):
        raise BadValue(value)


def check_from(value, bound):
    """Raise BadValue if value is not an integer that is bound or greater."""
    if not is_whole(value) or value < bound:
        raise BadValue(value)


def check_wholes(values):
    """Raise BadValue with all the values if they are no list or tuple of integers."""
    if not isinstance(values, (list, tuple)) or not all([is_whole(value) for value in values]):
        raise BadValue(values)


def sorted_words(words):
    """Return words as a sorted tuple."""
    return tuple(sorted([str(word) for word in words]))


def check_same_stock(known, other):
    """Raise OtherStock if these known names are not the same, in any order."""
    if sorted_words(known) != sorted_words(other):
        raise OtherStock(sorted_words(known), sorted_words(other))
