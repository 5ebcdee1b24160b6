"""Points [51] to [56] for everyname/stretches.py."""

import unittest

import plain
from everyname.programs import Program
from everyname.runs import run
from everyname.stretches import Courses, Stretch, alike
from helpers import FAR, FARTHER, RaisingTestCase, check, program
from samples import Sampler, mixed

EXAMPLE = Program.read("""known ann
near = {[u, v] for u in all for v in all if not (u == v)}
met = {ann}
while (count(met) < 3):
  met |= {v for [u, v] in near if (u in met)}""")
FEW = ("compare", ("count", ("var", "met")), "<", ("whole", 3))
TRUE = ("true",)
# Tests that do not hold at single n, far out and next to each other.
SEAMS = program(f"if (count(all) == {'9' * 60}):", "  x = {ann}", f"if (count(all) == 1{'0' * 60}):", "  x = {[ann]}",
                "if (count(all) >= 7):", "  y = all", known="known ann")


def way(found):
    return (found.course, found.end, found.entry, found.length, found.rounds)


class StretchesTestCase(RaisingTestCase):
    def assertIsDivided(self, given, found):
        """Check that the stretches cover all n and differ from their neighbours, and how each one runs at its ends."""
        rows = found.rows
        self.assertIs(type(rows), list)
        self.assertEqual((rows[0].lo, rows[-1].hi), (0, None))
        for left, right in zip(rows, rows[1:]):
            self.assertEqual(left.hi + 1, right.lo)
            self.assertNotEqual(way(left)[:4], way(right)[:4])
        for row in rows:
            self.assertIs(type(row), Stretch)
            for n in {row.lo, row.lo + 1, row.hi or row.lo, (row.hi or row.lo + FARTHER), row.lo + FAR}:
                if n in row:
                    self.assertEqual(way(run(given, n, most=found.most)), way(row), (given.text, n))


class RowsTest(StretchesTestCase):
    """Points [51] and [52]."""

    def test_example(self):
        found = Courses(EXAMPLE)
        self.assertEqual([(row.lo, row.hi) for row in found.rows], [(0, 0), (1, 1), (2, None)])
        self.assertEqual([way(row) for row in found], [((True,), "round", 0, 1, 1), ((True, True), "round", 1, 1, 2),
                                                       ((True, False), "rests", None, None, 2)])
        self.assertIs(found.program, EXAMPLE)
        self.assertEqual((found.most, len(found), Courses(EXAMPLE, most=9).most), (60, 3, 9))
        self.assertEqual(found[FAR].course, (True, False))
        self.assertIsDivided(EXAMPLE, found)

    def test_stretch_of_n(self):
        found = Courses(EXAMPLE)
        for n in (0, 1, 2, 3, FAR, FARTHER):
            self.assertIs(found[n], found.rows[min(n, 2)])
            self.assertEqual([n in row for row in found], [n == 0, n == 1, n >= 2])
        for n in (-1, -FARTHER):
            self.assertRaisesJust("BadValue", n, found.__getitem__, n)
            self.assertFalse(any(n in row for row in found))
        self.assertEqual(list(found), found.rows)

    def test_rows_are_a_new_list(self):
        found = Courses(EXAMPLE)
        first = list(found)
        Courses(EXAMPLE).rows.clear()
        self.assertEqual(found.rows, first)

    def test_seams_far_out(self):
        found = Courses(SEAMS)
        self.assertEqual([(row.lo, row.hi) for row in found], [
            (0, 5), (6, FAR - 3), (FAR - 2, FAR - 2), (FAR - 1, FAR - 1), (FAR, None)])
        self.assertIsDivided(SEAMS, found)
        self.assertEqual(found.trials(), [0, 6, FAR - 2, FAR - 1])
        self.assertEqual([found.tally("x")(n) for n in (FAR - 3, FAR - 2, FAR - 1, FAR)], [0, 1, 1, 0])
        self.assertEqual(str(found.span(("same", ("var", "x"), ("set",)))), f"0-{FAR - 3}, {FAR}-")

    def test_products_of_counts(self):
        given = program("x = all", "if ((count(x) * count(x)) > 1" + "0" * 60 + "):", "  y = x")
        found = Courses(given)
        self.assertEqual([(row.lo, row.hi) for row in found], [(0, 10 ** 30 - 1), (10 ** 30, None)])
        self.assertIsDivided(given, found)

    def test_seams_beyond_the_greatest_number_of_a_program(self):
        great = "(1" + "0" * 60 + " * 1" + "0" * 60 + ")"
        given = program("x = all", f"if (count(x) == {great}):", "  y = x", f"if ((count(x) * count(x)) > ({great} + count(x))):", "  z = x", known="known")
        found = Courses(given)
        self.assertEqual([(row.lo, row.hi, row.course) for row in found], [
            (0, FAR, (False, False)), (FAR + 1, FAR ** 2 - 1, (False, True)), (FAR ** 2, FAR ** 2, (True, True)), (FAR ** 2 + 1, None, (False, True))])
        self.assertIsDivided(given, found)
        self.assertEqual(found.least(check("(count(y) == 0)")), FAR ** 2)
        self.assertEqual(found.tally("y").highest(), (FAR ** 2, FAR ** 2))

    def test_seams_next_to_each_other(self):
        for number in (2, 9, 10 ** 30):
            rows = [f"if (count(all) == {number + k}):" if k != 1 else f"if (count(all) >= {number + 1}):" for k in range(4)]
            given = program(*(line for k, row in enumerate(rows) for line in (row, f"  x = {{[{', '.join(['[]'] * k)}]}}")), known="known")
            found = Courses(given)
            self.assertEqual([row.lo for row in found], [0] + [number + k for k in range(5)])
            self.assertIsDivided(given, found)

    def test_many_stretches(self):
        given = program("while (count(y) < count(all)):", "  y |= {[x]}", "  x = {x}", known="known")
        found = Courses(given, most=9)
        self.assertEqual([(row.lo, row.hi, row.end) for row in found], [(n, n, "rests") for n in range(9)] + [(9, None, "many")])
        self.assertIsDivided(given, found)
        self.assertEqual(found.trials(), list(range(10)))
        self.assertEqual(len(Courses(given)), 61)

    def test_most(self):
        for most in (0, -1, -FARTHER):
            self.assertRaisesJust("BadValue", most, Courses, EXAMPLE, most=most)
        self.assertEqual([row.end for row in Courses(EXAMPLE, most=1)], ["round", "many"])
        with self.assertRaises(TypeError):
            Courses(EXAMPLE, 60)

    def test_neighbours_that_differ_in_no_course(self):
        given = program("while true:", "  x = {u for u in {'a'} if (not ('a' in x) or (count(all) <= 3))}", known="known")
        found = Courses(given)
        self.assertEqual([way(row) for row in found], [((True, True), "round", 1, 1, 2), ((True, True), "round", 0, 2, 2)])
        self.assertEqual([(row.lo, row.hi) for row in found], [(0, 3), (4, None)])
        self.assertEqual(found.trials(), [0, 4])
        self.assertIsDivided(given, found)


class AskedTest(StretchesTestCase):
    """Points [53] to [55] with [46]."""

    def test_example(self):
        found = Courses(EXAMPLE)
        self.assertEqual([str(found.span(FEW)), found.least(FEW), found.trials()], ["0-1", 2, [0, 1, 2]])
        self.assertEqual([found.tally("near")(n) for n in (0, 1, 10, FAR)], [0, 2, 110, FAR * (FAR + 1)])
        self.assertEqual([found.tally("met")(n) for n in (0, 1, 2, FARTHER)], [1, 2, 3, FARTHER + 1])

    def test_least(self):
        found = Courses(EXAMPLE)
        self.assertIsNone(found.least(TRUE))
        self.assertEqual(found.least(("not", TRUE)), 0)
        self.assertEqual(found.least(("not", FEW)), 0)
        self.assertIsNone(found.least(check("(ann in met)", ("ann",))))
        self.assertEqual(found.least(check("not (count(all) == 1" + "0" * 60 + ")", ("ann",))), FAR - 1)

    def test_wrong_tests_and_variables(self):
        found = Courses(EXAMPLE)
        for call in (found.span, found.least):
            for test in (None, (), "true", ("true", ()), ("all",), ("same", ("known", "bob"), ("all",)), ("not", ["true"]),
                         ("some", "ann", ("all",), TRUE), ("in", ("var", "w"), ("known", "bob"))):
                self.assertRaisesJust("BadProgram", (), call, test)
            self.assertRaisesJust("NoVariable", "q", call, ("in", ("var", "q"), ("var", "r")))
            self.assertRaisesJust("NoVariable", "u", call, ("some", "u", ("var", "u"), TRUE))
        for name in ("u", "ann", "all", "", None, 3, True):
            self.assertRaisesJust("NoVariable", name, found.tally, name)

    def test_like_plain_loops(self):
        tests = [check(text) for text in ("(x == y)", "(x <= y)", "(some u in x: (u <= y))", "(count(x) < (count(y) * 2))",
                                          "(every u in all: (u in join(x)))")]
        for seed in range(120):
            if seed % 2:
                given = Program.read(mixed(seed))
            else:
                sampler = Sampler(seed, known=((), ("ann",), ("ann", "bob"))[seed % 3])
                given = Program(sampler.known, sampler.rows(4, 2) + tuple(("drop", name, ("set",)) for name in "xy"))
            found = Courses(given, most=6)
            spans = [found.span(test) for test in tests]
            tallies = {name: found.tally(name) for name in given.variables}
            for n in range(4):
                loops = plain.PlainRun(given.known, given.statements, given.variables, n, 6)
                self.assertEqual(way(found[n]), (loops.course, loops.end, loops.entry, loops.length, loops.rounds))
                for test, span in zip(tests, spans):
                    self.assertIs(n in span, loops.plain.holds(test, loops.state), (given.text, n, test))
                for name, value in loops.state.items():
                    self.assertEqual(tallies[name](n), len(plain.members(value)))
            for n in (7, 20, FARTHER):
                single = run(given, n, most=6)
                self.assertEqual(way(found[n]), way(single))
                self.assertEqual([n in span for span in spans], [single.holds(test) for test in tests])
                self.assertEqual([tallies[name](n) for name in given.variables], [single.count(name) for name in given.variables])

    def test_program_that_is_changed_later(self):
        given = program("x = all")
        found = Courses(given)
        given.statements, given.variables, given.known = (), (), ("bob",)
        found.rows.clear()
        self.assertEqual(found.tally("x")(4), 5)
        self.assertEqual(str(found.span(check("(ann in x)", ("ann",)))), "0-")


class AlikeTest(StretchesTestCase):
    """Point [56]."""

    def test_example(self):
        other = Program.read(EXAMPLE.text.replace("(count(met) < 3)", "(some u in all: not (u in met))"))
        self.assertNotEqual([(row.lo, row.end) for row in Courses(other)], [(row.lo, row.end) for row in Courses(EXAMPLE)])
        self.assertIsNone(alike(EXAMPLE, other))
        self.assertIsNone(alike(other, EXAMPLE))

    def test_least_n_and_first_variable(self):
        first = program("b = all", "c = all")
        self.assertEqual(alike(first, program("c = all")), (0, "b"))
        self.assertEqual(alike(program("c = all"), first), (0, "b"))
        self.assertEqual(alike(first, program("b = all", "c = {u for u in all if (count(all) < 9)}")), (8, "c"))
        self.assertEqual(alike(first, program("b = {u for u in all if (count(all) < 9)}", "c = {u for u in all if (count(all) < 9)}")),
                         (8, "b"))
        self.assertEqual(alike(first, program("b = {u for u in all if (count(all) < 9)}", "c = {u for u in all if (count(all) < 5)}")),
                         (4, "c"))
        self.assertIsNone(alike(program("a = {}", "b = all"), program("b = all")))
        self.assertEqual(alike(program("a = 'a'", "b = all"), program("b = all")), (0, "a"))

    def test_programs_that_differ_at_one_n_alone(self):
        other = program("x = {}", "y = {u for u in all if (count(all) >= 7)}")
        self.assertEqual(alike(SEAMS, other), (FAR - 2, "x"))
        pairs = [f"x = {text}" for text in ("{(all - {u}) for u in all}", "{{u} for u in all}")]
        self.assertEqual(alike(*(program(text, known="known") for text in pairs)), (1, "x"))
        same = [program(text, "x = {u for u in x if (count(all) == 2)}", known="known") for text in pairs]
        self.assertIsNone(alike(*same))

    def test_most(self):
        given = program("while (count(y) < 4):", "  y |= {[x]}", "  x = {x}")
        other = program("x = {{{{{}}}}}", "y = {[{}], [{{}}], [{{{}}}], [{{{{}}}}]}")
        self.assertIsNone(alike(given, other))
        self.assertIsNone(alike(given, other, most=5))
        self.assertEqual(alike(given, other, most=3), (0, "x"))
        self.assertIsNone(alike(given, program("x = {{{}}}", "y = {[{}], [{{}}]}"), most=2))

    def test_most_that_is_not_told(self):
        given = program("while (count(y) < 100):", "  y |= {[x]}", "  x = {x}")
        self.assertEqual(alike(given, program("while (count(y) < 60):", "  y |= {[x]}", "  x = {x}")), None)
        self.assertEqual(alike(given, program("while (count(y) < 59):", "  y |= {[x]}", "  x = {x}")), (0, "x"))
        self.assertEqual(alike(given, program("while (count(y) < 61):", "  y |= {[x]}", "  x = {x}"), most=61), None)
        self.assertIsNone(alike(given, program("y = {[{}]}", "x = {{}}"), most=1))

    def test_how_the_runs_end_is_not_compared(self):
        self.assertIsNone(alike(program("while true:", "  pass"), Program(("ann",))))

    def test_errors(self):
        first, other = program("x = all", known="known bob, ann"), program("x = all", known="known cy")
        self.assertOther(("ann", "bob"), ("cy",), alike, first, other)
        self.assertOther(("cy",), ("ann", "bob"), alike, other, first, most=0)
        self.assertIsNone(alike(first, program("x = all", known="known ann, bob")))
        for most in (0, -3):
            self.assertRaisesJust("BadValue", most, alike, first, first, most=most)

    def test_what_is_passed_stays(self):
        before = (EXAMPLE.known, EXAMPLE.statements, EXAMPLE.variables)
        alike(EXAMPLE, EXAMPLE), Courses(EXAMPLE).span(FEW), Courses(EXAMPLE).trials()
        self.assertEqual((EXAMPLE.known, EXAMPLE.statements, EXAMPLE.variables), before)


if __name__ == "__main__":
    unittest.main()
