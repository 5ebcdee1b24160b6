"""Runs by plain loops over the names written one by one: what the tests compare the program with.

A value is ("known", word), ("other", k), ("mark", word), ("row", tuple) or ("set", frozenset).
"""

import itertools
import operator

EMPTY = ("set", frozenset())
SIGNS = {"<": operator.lt, "<=": operator.le, "==": operator.eq, "!=": operator.ne, ">": operator.gt, ">=": operator.ge}


def members(value):
    return value[1] if value[0] == "set" else frozenset()


class Plain:
    def __init__(self, known, n):
        self.names = [("known", word) for word in known] + [("other", k) for k in range(1, n + 1)]

    def bindings(self, pattern, value, values):
        for member in members(value):
            if isinstance(pattern, str):
                yield {**values, pattern: member}
            elif member[0] == "row" and len(member[1]) == len(pattern):
                yield {**values, **dict(zip(pattern, member[1]))}

    def places(self, sources, values):
        if not sources:
            yield values
            return
        pattern, source = sources[0]
        for inner in self.bindings(pattern, self.value(source, values), values):
            yield from self.places(sources[1:], inner)

    def value(self, e, values):
        tag = e[0]
        if tag in ("known", "mark"):
            return e
        if tag == "var":
            return values[e[1]]
        if tag == "row":
            return ("row", tuple(self.value(part, values) for part in e[1:]))
        if tag == "set":
            return ("set", frozenset(self.value(part, values) for part in e[1:]))
        if tag == "all":
            return ("set", frozenset(self.names))
        if tag == "join":
            return ("set", frozenset(inner for member in members(self.value(e[1], values)) for inner in members(member)))
        if tag == "gather":
            _, result, sources, test = e
            return ("set", frozenset(self.value(result, inner) for inner in self.places(sources, values)
                                     if self.holds(test, inner)))
        a, b = members(self.value(e[1], values)), members(self.value(e[2], values))
        return ("set", {"union": a | b, "meet": a & b, "without": a - b, "either": a ^ b}[tag])

    def holds(self, t, values):
        tag = t[0]
        if tag == "true":
            return True
        if tag == "not":
            return not self.holds(t[1], values)
        if tag == "and":
            return self.holds(t[1], values) and self.holds(t[2], values)
        if tag == "or":
            return self.holds(t[1], values) or self.holds(t[2], values)
        if tag == "same":
            return self.value(t[1], values) == self.value(t[2], values)
        if tag == "in":
            return self.value(t[1], values) in members(self.value(t[2], values))
        if tag == "within":
            return members(self.value(t[1], values)) <= members(self.value(t[2], values))
        if tag == "compare":
            return SIGNS[t[2]](self.number(t[1], values), self.number(t[3], values))
        found = (self.holds(t[3], inner) for inner in self.bindings(t[1], self.value(t[2], values), values))
        return any(found) if tag == "some" else all(found)

    def number(self, x, values):
        if x[0] == "whole":
            return x[1]
        if x[0] == "count":
            return len(members(self.value(x[1], values)))
        left, right = self.number(x[1], values), self.number(x[2], values)
        return {"plus": left + right, "minus": left - right, "times": left * right}[x[0]]


class End(Exception):
    pass


class PlainRun:
    """A run by plain loops, with the attributes of a Run and state."""

    def __init__(self, known, statements, variables, n, most=60, start=None):
        self.plain = Plain(known, n)
        self.state = {**{name: EMPTY for name in variables}, **(start or {})}
        self.course = []
        self.rounds = 0
        self.most = most
        self.entry = self.length = None
        self.met = []
        self.end = "rests"
        try:
            self.execute(statements, ())
        except End:
            pass
        self.course = tuple(self.course)

    def execute(self, rows, path):
        for k, row in enumerate(rows):
            here = path + (k,)
            tag = row[0]
            if tag == "if":
                self.course.append(self.plain.holds(row[1], self.state))
                side = 0 if self.course[-1] else 1
                self.execute(row[2 + side], here + (side,))
            elif tag == "while":
                while self.again(here, row[1]):
                    self.execute(row[2], here + (0,))
            else:
                value = self.plain.value(row[2], self.state)
                if tag == "add":
                    value = ("set", members(self.state[row[1]]) | members(value))
                elif tag == "drop":
                    value = ("set", members(self.state[row[1]]) - members(value))
                self.state[row[1]] = value

    def again(self, path, test):
        for i, (other, state) in enumerate(self.met):
            if other == path and state == self.state:
                self.end, self.entry, self.length = "round", i, len(self.met) - i
                raise End
        if len(self.met) == self.most:
            self.end = "many"
            raise End
        self.met.append((path, dict(self.state)))
        self.rounds += 1
        self.course.append(self.plain.holds(test, self.state))
        return self.course[-1]


def from_shown(value):
    """A shown value as a plain one."""
    if value[0] == "row":
        return ("row", tuple(map(from_shown, value[1])))
    if value[0] == "set":
        inner = frozenset(map(from_shown, value[1]))
        assert len(inner) == len(value[1]), value
        return ("set", inner)
    return value


def size(value):
    """The size of a value."""
    if value[0] == "row":
        return sum(map(size, value[1]))
    if value[0] == "set":
        return sum(1 + size(member) for member in value[1])
    return 0


def renamings(value, n):
    """The value under every renumbering of n others."""
    for numbers in itertools.permutations(range(1, n + 1)):
        yield renamed(value, numbers)


def renamed(value, numbers):
    if value[0] == "other":
        return ("other", numbers[value[1] - 1])
    if value[0] == "row":
        return ("row", tuple(renamed(part, numbers) for part in value[1]))
    if value[0] == "set":
        return ("set", frozenset(renamed(part, numbers) for part in value[1]))
    return value
