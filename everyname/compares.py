"""The six signs that compare two integers."""


def is_sign(sign):
    """Tell whether sign is one of the six signs."""
    return isinstance(sign, str) and sign in ("<", "<=", "==", "!=", ">", ">=")


def compares(x, sign, y):
    """Tell whether the comparison of the integers x and y holds."""
    if sign == "<":
        return x < y
    if sign == "<=":
        return x <= y
    if sign == "==":
        return x == y
    if sign == "!=":
        return x != y
    if sign == ">":
        return x > y
    return x >= y
