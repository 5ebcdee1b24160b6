"""Random programs for the tests, of known seeds."""

import random

# Sets to begin with: rows, sets in sets, sets of all but a few.
POOL = (
    "{[u, v] for u in all for v in all if not (u == v)}", "{{u, v} for u in all for v in all}", "{{u} for u in all}",
    "{{u, v} for u in all for v in all if not (u == v)}", "{{v for v in all if not (v == u)} for u in all}",
    "{[u, {v for v in all if not (v == u)}] for u in all}", "{{{v for v in all if not (v == u)}, {u}} for u in all}",
    "{{w for w in all if not (w in {u, v})} for u in all for v in all}", "{{[u, v] for v in all} for u in all}",
    "{[u, v, w] for u in all for v in all for w in all if (not (u == v) and not (v == w))}",
    "{{[u, v] for v in all if not (u == v)} for u in all}", "{{u, {v, w}} for u in all for v in all for w in all}",
    "{{[v, w] for v in all for w in all if (not (v == u) and not (w == u))} for u in all}",
    "{{[u, v], [v, u]} for u in all for v in all}", "{[{u, v}, {u, w}] for u in all for v in all for w in all}",
    "{({u, v, w} | {{[u, v], [v, w], [w, u]}, {[v, u], [w, v], [u, w]}}) for u in all for v in all for w in all}",
    "{{{v} for v in all if not (v == u)} for u in all}", "{{{v, u} for v in all} for u in all}", "{{}, all, {all}}",
    "{(all - {u}) for u in all}", "{((all - {u}) ^ {v}) for u in all for v in all}",
    "{{(all - {u}), (all - {v})} for u in all for v in all}", "{[(all - {u, v}), u] for u in all for v in all}")

# What is made of two sets x and y.
STEPS = (
    "(x | y)", "(x & y)", "(x - y)", "(x ^ y)", "join(x)", "join(join(x))", "{u for u in x if (u in y)}",
    "{(u | v) for u in x for v in y}", "{(u & v) for u in x for v in y}", "{(u - v) for u in x for v in y}",
    "{(u ^ v) for u in x for v in x}", "{u for u in x if (some v in y: (u <= v))}", "{[u, v] for u in x for v in join(y) if (v in u)}",
    "{u for u in x if (every v in y: (count((u & v)) <= 1))}", "{{v for v in all if (v in u)} for u in x}",
    "{{u for u in x if (v in u)} for v in all}", "{{u for u in join(x) if ([u, v] in y)} for v in all}",
    "{[w, {u for [u, v] in x if (v == w)}] for w in all}", "{u for [u, v] in x if (v in y)}",
    "{u for u in x if (count(u) == count(all))}", "{u for u in x if (count(u) >= (count(all) - 1))}",
    "{{u, v} for u in x for v in y if (u <= v)}", "{x, y}", "{(x - {u}) for u in x}", "{(all - u) for u in x}",
    "{u for u in x if ((all - u) in y)}", "{u for u in x if (u in {(all - v) for v in y})}",
    "{[u, v] for [u, p] in x for [q, v] in y if (p == q)}", "{[u, v] for u in x for v in u}",
    "{{v, w} for u in x for v in (all - u) for w in u}", "{v for u in x for v in {u, (all & u)} if (v in y)}")

SIGNS = ("<", "<=", "==", "!=", ">", ">=")
BOUND = ("u", "v", "w", "p", "q", "r")


def mixed(seed):
    """The text of a program that makes sets in sets."""
    rng = random.Random(seed)
    lines = [rng.choice(("known", "known", "known ann", "known ann, bob"))]
    lines += [f"{name} = {rng.choice(POOL)}" for name in "xy"]
    for _ in range(rng.choice((1, 2, 3))):
        lines.append(f"{rng.choice('xyz')} {rng.choice(('=', '=', '=', '|=', '-='))} {rng.choice(STEPS)}")
    return "\n".join(lines)


class Sampler:
    """Makes random trees: e, t and x are made with a depth that is left and the variables that are bound."""

    def __init__(self, seed, known=("ann",), states=("x", "y", "z")):
        self.random = random.Random(seed)
        self.known = known
        self.states = states

    def pick(self, *things):
        return self.random.choice(things)

    def pattern(self, bound):
        free = [name for name in BOUND if name not in bound]
        self.random.shuffle(free)
        many = self.random.choice((0, 1, 2, 2, 2, 3)) if self.random.random() < 0.4 else None
        if many is None or many > len(free):
            return free[0], bound + (free[0],)
        return tuple(free[:many]), bound + tuple(free[:many])

    def leaf(self, bound):
        choice = self.random.random()
        if bound and choice < 0.6:
            return ("var", self.random.choice(bound))
        if self.known and choice < 0.7:
            return ("known", self.random.choice(self.known))
        if choice < 0.8:
            return ("mark", self.pick("a", "b"))
        return self.pick(("all",), ("var", self.random.choice(self.states)), ("set",))

    def e(self, deep, bound=()):
        if deep <= 0:
            return self.leaf(bound)
        tag = self.pick("leaf", "row", "set", "set", "all", "union", "meet", "without", "either", "join",
                        "gather", "gather", "gather", "gather")
        if tag == "leaf":
            return self.leaf(bound)
        if tag in ("row", "set"):
            return (tag,) + tuple(self.e(deep - 1, bound) for _ in range(self.random.choice((0, 1, 1, 2, 2, 3))))
        if tag == "all":
            return ("all",)
        if tag == "join":
            return ("join", self.e(deep - 1, bound))
        if tag == "gather":
            return self.gather(deep, bound)
        return (tag, self.e(deep - 1, bound), self.e(deep - 1, bound))

    def gather(self, deep, bound):
        sources = ()
        for _ in range(self.random.choice((1, 1, 1, 2, 2, 3))):
            if len(bound) > 3:
                break
            source = self.e(deep - 1, bound)
            pattern, inner = self.pattern(bound)
            if isinstance(pattern, str) and self.random.random() < 0.6:
                source = ("all",)
            sources += ((pattern, source),)
            bound = inner
        if not sources:
            return ("all",)
        test = ("true",) if self.random.random() < 0.3 else self.t(deep - 1, bound)
        return ("gather", self.e(deep - 1, bound), sources, test)

    def t(self, deep, bound=()):
        if deep <= 0:
            return self.pick(("true",), ("same", self.leaf(bound), self.leaf(bound)),
                             ("in", self.leaf(bound), self.leaf(bound)))
        tag = self.pick("not", "and", "or", "same", "same", "in", "in", "within", "some", "every", "compare")
        if tag == "not":
            return (tag, self.t(deep - 1, bound))
        if tag in ("and", "or"):
            return (tag, self.t(deep - 1, bound), self.t(deep - 1, bound))
        if tag in ("some", "every"):
            if len(bound) > 3:
                return ("true",)
            pattern, inner = self.pattern(bound)
            return (tag, pattern, self.e(deep - 1, bound), self.t(deep - 1, inner))
        if tag == "compare":
            return (tag, self.x(deep - 1, bound), self.random.choice(SIGNS), self.x(deep - 1, bound))
        return (tag, self.e(deep - 1, bound), self.e(deep - 1, bound))

    def x(self, deep, bound=()):
        if deep <= 0:
            return self.pick(("whole", self.random.choice((0, 1, 2, 3, 4, 7))), ("count", self.leaf(bound)))
        tag = self.pick("whole", "count", "count", "count", "plus", "minus", "times")
        if tag == "whole":
            return (tag, self.random.choice((0, 1, 2, 3, 5)))
        if tag == "count":
            return (tag, self.e(deep, bound))
        return (tag, self.x(deep - 1, bound), self.x(deep - 1, bound))

    def rows(self, many, deep, level=1):
        return tuple(self.statement(deep, level) for _ in range(many))

    def statement(self, deep, level):
        tag = self.pick("put", "put", "put", "add", "add", "drop", "if", "while")
        if tag in ("put", "add", "drop") or level > 2:
            return (tag if tag in ("put", "add", "drop") else "put", self.random.choice(self.states), self.e(deep))
        if tag == "if":
            return (tag, self.t(deep), self.rows(self.pick(0, 1, 2), deep, level + 1),
                    self.rows(self.pick(0, 1), deep, level + 1))
        return (tag, self.t(deep), self.rows(self.pick(1, 2, 2), deep, level + 1))
