"""Points [80] to [92] together: random steps in a world, against plain loops at n = 0 to 3."""

import random
import unittest

import plain
from everyname.errors import EverynameError
from everyname.trees import assigned_names, free_names
from everyname.world import World
from helpers import RaisingTestCase, check, program, tree

MOST = 3
CLAUSES = (
    "{u for u in x}", "{[u, v] for u in x for v in y}", "{[u, w] for [u, v] in R for [p, w] in x if (v == p)}", "{[v, u] for [u, v] in R}",
    "{u for [u, v] in R}", "{u for u in all if (count(y) < 3)}", "{[u, v] for u in all for v in all if not (u == v)}", "{{u} for u in z}",
    "{(u | v) for u in R for v in y}", "{[u, v] for u in R for v in all if (u in x)}", "{u for u in join(x)}", "{u for u in r}",
    "{u for u in q if (some v in y: (u in v))}", "{u for u in all if (u in R)}")
TESTS = (
    "(count(x) <= 7)", "(x <= y)", "(count(old) <= (count(x) + 2))", "(every u in x: not (u in z))", "not (count(q) == 3)", "(old == x)",
    "(count(r) < 9)", "true", "not (count(y) == 2)", "(count(x) >= 0)")
ROWS = (
    "x = all", "y = {{u} for u in all}", "z = {}", "x |= {[]}", "y = {(all - {u}) for u in all}", "x -= y", "z = {x, y}", "x = join(y)",
    "x = {[u, v] for u in all for v in all if not (u == v)}", "y |= {u for u in x if (count(x) > 2)}", "q = {u for u in all if (count(all) >= 3)}",
    "while (count(x) < 3):\n  x |= {[z]}\n  z = {z}", "if (count(all) == 2):\n  y = q\nelse:\n  y = {'a'}", "while not (x == {}):\n  x = {}",
    "while (count(all) == 3):\n  x = {}")


def with_empty(values):
    """The values of variables by their names; the others are empty."""
    return {**{name: plain.EMPTY for name in ("x", "y", "z", "q", "r", "s", "old")}, **values}


class TooGreat(Exception):
    """A set is too great for plain loops."""


class Model:
    """A world by plain loops, at n = 0 to MOST."""

    def __init__(self, known):
        self.known = known
        self.told = [{} for _ in range(MOST + 1)]
        self.rules, self.guards = [], []
        self.loops = [plain.Plain(known, n) for n in range(MOST + 1)]

    def copy(self):
        found = Model(self.known)
        found.told, found.rules, found.guards = [dict(each) for each in self.told], list(self.rules), list(self.guards)
        return found

    def rule_value(self, n, name, clauses, values):
        """The value of a rule, or None if more than 60 rounds change it."""
        found = frozenset()
        for _ in range(61):
            wider = found
            for clause in clauses:
                wider = wider | plain.members(self.loops[n].value(clause, {**values, name: ("set", found)}))
            if wider == found:
                return ("set", found)
            if len(wider) > 300:
                raise TooGreat()
            found = wider
        return None

    def values(self):
        """The values at each n, with those of rules; or the error of a rule."""
        found = [with_empty(each) for each in self.told]
        for name, clauses in self.rules:
            for n, values in enumerate(found):
                value = self.rule_value(n, name, clauses, values)
                if value is None:
                    return ("Restless", name, n, "many")
                values[name] = value
        return found

    def broken(self, values, before):
        for name, test, pairs in self.guards:
            for n in range(MOST + 1):
                inner = {**values[n], **{past: before[n][now] for past, now in pairs}}
                if not self.loops[n].holds(test, inner):
                    return ("Broken", name, n)
        return None

    def do(self, given, values):
        """Execute a program; return an error or None."""
        names = assigned_names(given.statements)
        wrong = sorted(name for name in names if name in dict(self.rules))
        if wrong:
            return ("BadName", wrong[0])
        for n in range(MOST + 1):
            start = {name: values[n][name] for name in given.variables}
            found = plain.PlainRun(self.known, given.statements, (), n, 60, start)
            if found.end != "rests":
                return ("Restless", "", n, found.end)
            self.told[n].update({name: found.state[name] for name in names})
        return None

    def rule(self, name, clauses):
        place = self.place(self.rules, name)
        ahead, behind = self.rules[:place], [other for other, _ in self.rules[place:] if other != name]
        if any(name in each for each in self.told) or any(name in free_names(e) for _, found in ahead for e in found):
            return ("BadName", name)
        for k, e in enumerate(clauses):
            own = sum(source == ("var", name) for _, source in e[2])
            if any(other in behind for other in free_names(e)) or repr(e).count(repr(("var", name))) != own:
                return ("BadRule", name, k)
        self.rules[place:place + 1] = [(name, clauses)]
        return None

    def place(self, rows, name):
        return next((k for k, row in enumerate(rows) if row[0] == name), len(rows))


class HistoriesTest(RaisingTestCase):
    def step(self, rng, world, model, values):
        """A step of a random kind: how to do it, and its error in the model, which it changes."""
        kind = rng.choice(("do", "do", "do", "rule", "rule", "guard", "guard", "drop"))
        known = "known" + "".join(" " + word for word in model.known)
        if kind == "do":
            given = program(*(rng.choice(ROWS) for _ in range(rng.choice((1, 2)))), known=known)
            return lambda: world.do(given), model.do(given, values)
        if kind == "rule":
            name = rng.choice(("r", "s", "x"))
            clauses = tuple(tree(text.replace("R", name), model.known) for text in rng.sample(CLAUSES, rng.choice((0, 1, 2, 3))))
            return lambda: world.rule(name, clauses), model.rule(name, clauses)
        name = rng.choice(("g", "h"))
        place = model.place(model.guards, name)
        if kind == "drop":
            error = ("BadName", name) if place == len(model.guards) else None
            model.guards[place:place + 1] = []
            return lambda: world.drop(name), error
        test, before = check(rng.choice(TESTS), model.known), rng.choice(((), (("old", "x"),), (("old", "r"), ("x", "y"))))
        model.guards[place:place + 1] = [(name, test, before)]
        return lambda: world.guard(name, test, before), None

    def assertStep(self, rng, world, model):
        """Do a step; return the model behind it."""
        before, page, changed = model.values(), world.page, model.copy()
        call, error = self.step(rng, world, changed, before)
        values = changed.values() if error is None else before
        if isinstance(values, tuple):
            error = values
        error = error or changed.broken(values, before)
        found = None
        try:
            call()
        except EverynameError as caught:
            found = (type(caught).__name__,) + tuple(vars(caught).values())
        if found is None or found[0] not in ("Broken", "Restless") or found[2] <= MOST:
            self.assertEqual(found, error, page)
        if found is not None:
            self.assertEqual(world.page, page)
            return model
        return changed

    def test_random_steps(self):
        for seed in range(120):
            rng = random.Random(seed)
            known = rng.choice(((), ("ann",)))
            world, model = World(known), Model(known)
            try:
                for _ in range(10):
                    model = self.assertStep(rng, world, model)
                    for n, values in enumerate(model.values()):
                        for name in values:
                            self.assertShown(world[name](n, 10 ** 6), values[name])
            except TooGreat:
                continue
            again = World.read(world.page)
            self.assertEqual((again, again.page), (world, world.page))
            while len(world):
                self.assertEqual(world, World.read(world.page))
                world.undo()


if __name__ == "__main__":
    unittest.main()
