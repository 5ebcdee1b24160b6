"""Keys of values that are nested deep, as behind many rounds of a loop: points [44], [47], [49] and [51]."""

import random
import unittest
from unittest import mock

import plain
from everyname.families import Family
from everyname.forms import form
from everyname.reckoning import checked_nodes, value_of_nodes
from everyname.runs import run
from everyname.shapes import alike_stock, key_of, listed_stock
from everyname.stretches import Courses, alike
from everyname.programs import Program
from everyname.values import value_text
from helpers import FARTHER, RaisingTestCase, program
from samples import mixed


def short_keys(most):
    """A context in which keys of more than so many characters are long ones."""
    return mock.patch("everyname.spelling.LONG", most)


def random_value(rng, deep, names):
    """A random shown value that often has the same parts at several places."""
    if deep == 0 or rng.random() < 0.15:
        return rng.choice(names)
    parts = [random_value(rng, deep - 1, names) for _ in range(rng.choice((0, 1, 1, 2, 2)))]
    parts += rng.choices(parts, k=rng.choice((0, 1))) if parts else []
    if rng.random() < 0.4:
        return ("row", tuple(parts))
    return ("set", tuple({value_text(part): part for part in parts}.values()))


class KeysTest(unittest.TestCase):
    def keys_of(self, values, stock, n):
        return [key_of(value_of_nodes(stock, checked_nodes(value, ("ann",), n)[0])) for value in values]

    def test_equal_values_alone_have_equal_keys(self):
        rng = random.Random(3)
        names = (("other", 1), ("other", 2), ("known", "ann"), ("mark", "ann"), ("set", ()), ("row", ()))
        values = [random_value(rng, deep, names) for deep in (1, 2, 3, 4, 5) for _ in range(150)]
        texts = [value_text(value) for value in values]
        self.assertGreater(len(texts), len(set(texts)) + 50)
        # There are enough others for telling all values apart by their keys.
        for most in (1, 4, 9, 20, 60, 2000):
            with short_keys(most):
                for stock, n in ((listed_stock(("ann",), 2), 2), (alike_stock(("ann",), FARTHER, None), FARTHER)):
                    keys = self.keys_of(values, stock, n)
                    self.assertEqual(len(set(keys)), len(set(texts)))
                    self.assertEqual(len(set(zip(keys, texts))), len(set(texts)))

    def test_the_order_of_members_plays_no_part(self):
        values = [deep_value(9, turn) for turn in (1, -1)]
        self.assertNotEqual(*values)
        for most in (1, 10, 100, 2000):
            with short_keys(most):
                one, other = self.keys_of(values, listed_stock((), 2), 2)
            self.assertEqual(one, other)


def deep_value(rounds, turn):
    """A shown value with the same value at very many places; the members of its sets are turned around if turn is -1."""
    value = ("other", 1)
    for k in range(rounds):
        value = ("set", (value, ("set", (value,)), ("other", 2))[::turn]) if k % 3 else ("row", (value, value))
    return value


class RoundsTest(RaisingTestCase):
    DOUBLING = ("x |= {x}", "x = [x, x]", "x = {[u, {u}] for u in x}", "x = {[u, u] for u in x}", "x |= {[x, {x}], []}",
                "x = {{x}, [x, all]}", "x = {[x, u] for u in all}")

    def test_many_rounds(self):
        for line in self.DOUBLING:
            given = program("x = all", "while true:", "  " + line)
            for n in (0, 3, FARTHER):
                found = run(given, n)
                self.assertEqual((found.end, found.rounds, found.course), ("many", 60, (True,) * 60), line)
            rows = Courses(given).rows
            self.assertEqual([(row.lo, row.hi, row.end, row.rounds) for row in rows], [(0, None, "many", 60)], line)

    def test_what_is_told_of_deep_values(self):
        given = program("while true:", "  x |= {x}")
        found = run(given, 4)
        self.assertEqual(found.count("x"), 60)
        # The size of the k-th member is 2 ** k - 1, from k = 0 on.
        self.assertRaisesJust("TooMany", 2 ** 60 - 1, found.value, "x")
        self.assertRaisesJust("TooMany", 2 ** 60 - 1, Family(given, ("var", "x")), 4)
        self.assertIs(found.holds(("in", ("set", ("set",)), ("var", "x"))), True)
        self.assertEqual(run(given, 4, most=3).value("x"), run(program("x = {{}, {{}}, {{}, {{}}}}"), 4).value("x"))
        rows = run(program("x = 'a'", "while true:", "  x = [x, x]"), 4)
        value = rows.value("x")
        for _ in range(60):
            self.assertEqual((value[0], len(value[1])), ("row", 2))
            value = value[1][1]
        self.assertEqual(value, ("mark", "a"))

    def test_deep_values_are_compared(self):
        one = program("while true:", "  x |= {x}")
        other = program("while true:", "  y = {x}", "  x = (y | x)", "  y = {}")
        self.assertIsNone(alike(one, other))
        for first, n in (("x = {'a'}", 0), ("x = {u for u in all if (count(all) == 9)}", 8)):
            self.assertEqual(alike(one, program(first, "while true:", "  x |= {x}")), (n, "x"))
        self.assertTrue(Family(one, ("join", ("var", "x"))) < Family(other, ("var", "x")))
        more = program("while true:", "  x |= {x}", "  if (count(x) == 40):", "    x |= {'a'}")
        self.assertEqual(alike(one, more), (0, "x"))


class ShortKeysTest(RaisingTestCase):
    """What programs do is the same where most keys are long ones."""

    def test_programs(self):
        for seed in range(60):
            given = Program.read(mixed(seed))
            with self.subTest(seed=seed), short_keys(seed % 4 * 12):
                families = {name: Family(given, ("var", name)) for name in given.variables}
                starts = {name: form(families[name]).start for name in families}
            for n in range(4):
                state = plain.PlainRun(given.known, given.statements, given.variables, n).state
                for name in families:
                    self.assertShown(families[name](n, 10 ** 6), state[name])
            self.assertEqual(starts, {name: form(Family(given, ("var", name))).start for name in families})


if __name__ == "__main__":
    unittest.main()
