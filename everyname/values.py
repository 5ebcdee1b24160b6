"""Shown values: nested tuples that tell a value, with numbers for the others.

They are gone through by lists of their nodes instead of by calls in calls, so that they may be
nested as deep as they like. A node is a triple (value, start, end): its parts are the nodes with the
indexes from start to end - 1, which are greater than its own.
"""

from everyname.checks import is_whole
from everyname.digits import decimal
from everyname.errors import BadValue
from everyname.trees import MOST_PARTS
from everyname.words import is_free_word, is_word


def is_node(value):
    """Tell whether a value is a shown one, as far as this can be told without looking at its parts."""
    if not isinstance(value, tuple) or len(value) != 2 or not isinstance(value[0], str):
        return False
    kind, inner = value
    if kind == "known":
        return is_free_word(inner)
    if kind == "mark":
        return is_word(inner)
    if kind == "other":
        return is_whole(inner) and inner >= 1
    if kind == "row":
        return isinstance(inner, tuple) and len(inner) <= MOST_PARTS
    return kind == "set" and isinstance(inner, tuple)


def nodes_of(value):
    """Return the nodes of a shown value, itself first; None if one of them is no node."""
    found = []
    waiting = [value]
    while len(found) < len(waiting):
        inner = waiting[len(found)]
        if not is_node(inner):
            return None
        parts = inner[1] if inner[0] in ("row", "set") else ()
        found.append((inner, len(waiting), len(waiting) + len(parts)))
        waiting.extend(list(parts))
    return found


def node_text(value, texts):
    """Return the text of a node, from the texts of its parts; those of a set's members are sorted."""
    kind, inner = value
    if kind == "known":
        return inner
    if kind == "mark":
        return "'" + inner + "'"
    if kind == "other":
        return "#" + decimal(inner)
    parts = ", ".join(texts)
    return "[" + parts + "]" if kind == "row" else "{" + parts + "}"


def texts_of(nodes):
    """Return the texts of nodes in their order; None if a set has two members that are equal."""
    texts = ["" for _ in nodes]
    for at in range(len(nodes) - 1, -1, -1):
        value, start, end = nodes[at]
        inner = texts[start:end]
        if value[0] == "set":
            inner = sorted([str(text) for text in inner])
            if any([inner[k] == inner[k + 1] for k in range(len(inner) - 1)]):
                return None
        texts[at] = node_text(value, inner)
    return texts


def checked(value):
    """Return the nodes and the texts of a shown value; raise BadValue if it is none."""
    nodes = nodes_of(value)
    if nodes is None:
        raise BadValue(value)
    texts = texts_of(nodes)
    if texts is None:
        raise BadValue(value)
    return nodes, texts


def value_text(value):
    """Return the text of a shown value; equal values have equal texts."""
    _, texts = checked(value)
    return texts[0]


def same_value(a, b):
    """Tell whether two shown values are equal values."""
    _, texts = checked(a)
    _, others = checked(b)
    return texts[0] == others[0]


def others_in(value):
    """Return the numbers of the others that occur in a shown value, ascending."""
    nodes, _ = checked(value)
    numbers = {node[0][1]: True for node in nodes if node[0][0] == "other"}
    return tuple(sorted([int(number) for number in numbers]))


def members_of(value):
    """Return the shown members of a shown value in the order of their texts; none if it is no set."""
    nodes, texts = checked(value)
    _, start, end = nodes[0]
    if value[0] != "set":
        return ()
    places = {texts[at]: at for at in range(start, end)}
    return tuple([nodes[places[text]][0] for text in sorted([str(text) for text in places])])


def are_numbers(numbers):
    """Tell whether numbers is a tuple of different integers that are 1 or greater."""
    if not isinstance(numbers, tuple) or not all([is_whole(number) and number >= 1 for number in numbers]):
        return False
    return len(set(numbers)) == len(numbers)


def renumbered(value, numbers):
    """Return the shown value in which the other k is replaced by the other numbers[k - 1]."""
    nodes, _ = checked(value)
    if not are_numbers(numbers):
        raise BadValue(numbers)
    if any([node[0][0] == "other" and node[0][1] > len(numbers) for node in nodes]):
        raise BadValue(value)
    found = [() for _ in nodes]
    for at in range(len(nodes) - 1, -1, -1):
        inner, start, end = nodes[at]
        if inner[0] == "other":
            found[at] = ("other", numbers[inner[1] - 1])
        elif inner[0] in ("row", "set"):
            found[at] = (inner[0], tuple(found[start:end]))
        else:
            found[at] = inner
    return found[0]
