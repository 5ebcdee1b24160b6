"""Renumberings: tuples of k integers that contain each of 0 to k - 1 once."""

from everyname.checks import is_whole
from everyname.errors import BadRenumbering
from everyname.orbits import orders_of

DIGITS = 9


def is_renumbering(row):
    """Tell whether row is a renumbering."""
    if not isinstance(row, tuple) or not all([is_whole(number) for number in row]):
        return False
    return sorted([int(number) for number in row]) == list(range(len(row)))


def check_renumbering(row):
    """Raise BadRenumbering if row is no renumbering."""
    if not is_renumbering(row):
        raise BadRenumbering(row)


def check_size(row, size):
    """Raise BadRenumbering if row is no renumbering of this size."""
    if not is_renumbering(row) or len(row) != size:
        raise BadRenumbering(row)


def sorted_rows(rows):
    """Return tuples of integers that are 0 or greater, each once, in ascending lexicographic order."""
    table = {" ".join([str(number).zfill(DIGITS) for number in row]): row for row in rows}
    return tuple([table[text] for text in sorted([str(text) for text in table])])


def product_of(p, q):
    """Return the renumbering whose item at i is p[q[i]]."""
    return tuple([p[number] for number in q])


def inverse_of(p):
    """Return the renumbering r with r[p[i]] == i for each i."""
    places = {number: k for k, number in enumerate(p)}
    return tuple([places[k] for k in range(len(p))])


def compose(p, q):
    """Return the renumbering whose item at i is p[q[i]]."""
    check_renumbering(p)
    check_size(q, len(p))
    return product_of(p, q)


def inverse(p):
    """Return the renumbering r with r[p[i]] == i for each i."""
    check_renumbering(p)
    return inverse_of(p)


def generated(size, rows):
    """Return the least set of renumberings with the identity and rows that has the compositions of any two."""
    for row in rows:
        check_size(row, size)
    waiting = [tuple(range(size))]
    found = {waiting[0]: True}
    while waiting:
        last = waiting.pop()
        for row in rows:
            further = product_of(last, row)
            if further not in found:
                found[further] = True
                waiting.append(further)
    return sorted_rows(list(found))


def conjugate(first, second):
    """Return the least renumbering c for which c p c^-1, for p in first, are just the ones in second, or None."""
    for c in orders_of(list(range(len(first[0]))), len(first[0])):
        back = inverse_of(c)
        if sorted_rows([product_of(product_of(c, p), back) for p in first]) == second:
            return c
    return None
