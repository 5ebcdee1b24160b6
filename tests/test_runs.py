"""Points [1], [3], [4], [7] to [12], [43] to [50] and [14] for everyname/runs.py."""

import itertools
import unittest

import plain
from everyname.errors import BadProgram, BadValue, NoVariable, TooMany
from everyname.programs import Program
from everyname.runs import Run, run
from everyname.sizes import Size
from everyname.values import same_value, value_text
from samples import POOL, Sampler, mixed

FAR, FARTHER = 10 ** 60, 10 ** 300
ANN, ALL, TRUE = ("known", "ann"), ("all",), ("true",)
U, V, X = ("var", "u"), ("var", "v"), ("var", "x")
EXAMPLE = Program.read("""known ann
near = {[u, v] for u in all for v in all if not (u == v)}
met = {ann}
while (count(met) < 3):
  met |= {v for [u, v] in near if (u in met)}""")
NO_INTEGERS = (True, False, None, "1", 1.0, (1,))


def program(*lines, known="known ann"):
    return Program.read("\n".join((known,) + lines))


def ending(found):
    return (found.end, found.entry, found.length, found.rounds, found.course)


class RunsTestCase(unittest.TestCase):
    def assertRaisesWith(self, error, attribute, call, *given, **named):
        kind, name = error
        with self.assertRaises(kind) as caught:
            call(*given, **named)
        self.assertIs(type(caught.exception), kind)
        self.assertEqual(getattr(caught.exception, name), attribute)
        self.assertIs(type(getattr(caught.exception, name)), type(attribute))

    def assertTooMany(self, amount, call, *given, **named):
        self.assertRaisesWith((TooMany, "amount"), amount, call, *given, **named)

    def assertShown(self, found, value):
        """Check that a shown value is this plain one."""
        value_text(found)
        self.assertEqual(plain.from_shown(found), value)

    def assertLikePlain(self, given, n, most=60, tests=(), parts=True):
        """Check all that a run tells against plain loops; return the run."""
        found = run(given, n, most=most)
        loops = plain.PlainRun(given.known, given.statements, given.variables, n, most)
        self.assertEqual(ending(found), ending(loops), (given.text, n))
        for name, value in loops.state.items():
            self.assertEqual(found.count(name), len(plain.members(value)), (given.text, n, name))
            size = plain.size(value)
            if size <= 400:
                self.assertShown(found.value(name, most=size), value)
            if size > 0:
                self.assertTooMany(size, found.value, name, most=size - 1)
        for t in tests:
            self.assertIs(found.holds(t), loops.plain.holds(t, loops.state), (given.text, n, t))
        for a, b in itertools.product(loops.state, repeat=2) if parts else ():
            self.assertPart(found, a, b, plain.members(loops.state[a]) - plain.members(loops.state[b]))
        return found

    def assertPart(self, found, a, b, missing):
        if not missing:
            self.assertIsNone(found.part(a, b, most=0))
            return
        least = min(map(plain.size, missing))
        for most in (least, least + 20):
            part = plain.from_shown(found.part(a, b, most=most))
            self.assertIn(part, missing)
            self.assertLessEqual(plain.size(part), most)
        if least > 0:
            self.assertTooMany(least, found.part, a, b, most=least - 1)

    def assertValue(self, text, n, *members):
        """Check the members of an expression at n over the known name ann."""
        shown = run(program("x = " + text), n).value("x")
        self.assertTrue(same_value(shown, ("set", members)), shown)


class ExampleTest(RunsTestCase):
    def test_n_0(self):
        found = run(EXAMPLE, 0)
        self.assertEqual(ending(found), ("round", 0, 1, 1, (True,)))
        self.assertEqual([found.value("near"), found.value("met")], [("set", ()), ("set", (ANN,))])

    def test_n_1(self):
        found = run(EXAMPLE, 1)
        self.assertEqual(ending(found), ("round", 1, 1, 2, (True, True)))
        self.assertIn(found.value("met"), [("set", (ANN, ("other", 1))), ("set", (("other", 1), ANN))])

    def test_n_2(self):
        found = run(EXAMPLE, 2)
        self.assertEqual(ending(found), ("rests", None, None, 2, (True, False)))
        self.assertEqual([found.count("met"), found.count("near")], [3, 6])

    def test_far_out(self):
        for n in (500, FAR, FARTHER):
            found = run(EXAMPLE, n)
            self.assertEqual(ending(found), ("rests", None, None, 2, (True, False)))
            self.assertEqual([found.count("met"), found.count("near")], [n + 1, n * (n + 1)])
            self.assertTooMany(n + 1, found.value, "met")
            self.assertTooMany(n * (n + 1), found.value, "near", most=n)
        self.assertTooMany(501, run(EXAMPLE, 500).value, "met")

    def test_attributes(self):
        found = run(EXAMPLE, 7, most=12)
        self.assertIs(type(found), Run)
        self.assertIs(found.program, EXAMPLE)
        self.assertEqual((found.n, found.most), (7, 12))
        self.assertEqual(run(EXAMPLE, 7).most, 60)

    def test_empty_program(self):
        for n in (0, 3, FARTHER):
            self.assertEqual(ending(run(Program(), n)), ("rests", None, None, 0, ()))


class MembersTest(RunsTestCase):
    """Point [4]: all values have members, and nothing fails."""

    def test_examples(self):
        given = program("x = ('a' | {})", "y = 'a'", "z = {}")
        found = run(given, 3)
        self.assertEqual([found.value(name) for name in "xyz"], [("set", ()), ("mark", "a"), ("set", ())])
        self.assertTrue(found.holds(("within", ("mark", "a"), ANN)))
        self.assertTrue(found.holds(("same", X, ("var", "z"))))
        self.assertFalse(found.holds(("same", ("var", "y"), ("var", "z"))))
        self.assertTrue(found.holds(("compare", ("count", ANN), "==", ("whole", 0))))

    def test_values_that_are_no_sets(self):
        values = [ANN, ("known", "bob"), ("mark", "ann"), ("row",), ("row", ALL, ANN), ("set",), ALL, ("set", ANN)]
        known = ("ann", "bob")
        for a, b in itertools.product(values, repeat=2):
            rows = [("put", "a", a), ("put", "b", b), ("add", "c", a), ("add", "c", b), ("drop", "d", b), ("put", "e", a),
                    ("add", "e", b), ("put", "f", a), ("drop", "f", b), ("put", "g", ("join", a)),
                    ("put", "h", ("gather", U, (("u", a),), ("in", U, b)))]
            rows += [("put", name, (tag, a, b)) for name, tag in zip("ijkl", ("union", "meet", "without", "either"))]
            tests = [(tag, a, b) for tag in ("same", "in", "within")] + [
                ("compare", ("count", a), "<=", ("count", b)), ("some", (), a, TRUE), ("every", ("u", "v"), ("set", a, b), (
                    "in", ("var", "v"), U))]
            for n in (0, 1, 2):
                self.assertLikePlain(Program(known, tuple(rows)), n, tests=tests)

    def test_marks_are_no_names(self):
        found = run(program("x = {'ann', ann, 'all'}"), 0)
        self.assertEqual(found.count("x"), 3)
        self.assertFalse(found.holds(("in", ("mark", "ann"), ALL)))
        self.assertFalse(found.holds(("same", ("row",), ("set",))))

    def test_kinds_differ(self):
        given = program("x = {ann, 'ann', [ann], {ann}}", "x |= {[], {}, [[]], {[]}}", "x |= {[{}], {{}}, [ann, ann], {ann, ann}}")
        self.assertEqual(run(given, 0).count("x"), 11)
        self.assertLikePlain(given, 2)


class ExpressionsTest(RunsTestCase):
    """Points [7] and [8], by hand."""
    ann, one, two = ANN, ("other", 1), ("other", 2)

    def test_leaves(self):
        self.assertValue("all", 0, ANN)
        self.assertValue("all", 2, ANN, self.one, self.two)
        self.assertValue("{ann, 'b', []}", 1, ANN, ("mark", "b"), ("row", ()))
        self.assertValue("{y}", 1, ("set", ()))
        self.assertEqual(run(program("x = [ann, all]"), 1).value("x")[0], "row")

    def test_signs(self):
        self.assertValue("({ann, 'a'} | {'b', ann})", 0, ANN, ("mark", "a"), ("mark", "b"))
        self.assertValue("({ann, 'a'} & {'b', ann})", 0, ANN)
        self.assertValue("({ann, 'a'} - {'b', ann})", 0, ("mark", "a"))
        self.assertValue("({ann, 'a'} ^ {'b', ann})", 0, ("mark", "a"), ("mark", "b"))
        self.assertValue("(all - {ann})", 2, self.one, self.two)

    def test_join(self):
        self.assertValue("join({all, {'a'}, ann, [all]})", 1, ANN, self.one, ("mark", "a"))
        self.assertValue("join({{u} for u in all})", 2, ANN, self.one, self.two)
        self.assertValue("join({})", 2)

    def test_gather(self):
        self.assertValue("{[u, v] for u in all for v in all if not (u == v)}", 1, ("row", (ANN, self.one)),
                         ("row", (self.one, ANN)))
        self.assertValue("{'a' for u in all}", 3, ("mark", "a"))
        self.assertValue("{v for u in {all} for v in u}", 1, ANN, self.one)

    def test_patterns_pass_over_what_they_do_not_fit(self):
        rows = "{ann, 'a', [], [ann]}"
        self.assertValue("{u for u in " + rows + "}", 0, ANN, ("mark", "a"), ("row", ()), ("row", (ANN,)))
        self.assertValue("{'b' for [] in " + rows + "}", 0, ("mark", "b"))
        self.assertValue("{u for [u] in " + rows + "}", 0, ANN)
        self.assertValue("{u for [u, v] in " + rows + "}", 0)
        self.assertValue("{[b, a] for [a, b] in {[ann, 'a'], [ann], [ann, ann, ann], {ann}}}", 0, ("row", (("mark", "a"), ANN)))

    def test_sources_with_variables_of_earlier_ones(self):
        self.assertValue("{[u, v] for u in {{ann}, {'a', 'b'}} for v in u}", 1, *(
            ("row", (("set", inner), member)) for inner in ((ANN,), (("mark", "a"), ("mark", "b"))) for member in inner))
        self.assertValue("{v for [u, w] in {[ann, {'a'}], ['b', {ann}]} for v in {u, w}}", 1, ANN, ("mark", "b"),
                         ("set", (("mark", "a"),)), ("set", (ANN,)))
        self.assertValue("{v for u in all for v in (all - {u}) for w in {v, ann} if (w == u)}", 1, self.one)

    def test_sets_in_sets(self):
        self.assertValue("{{u, ann} for u in all}", 1, ("set", (ANN,)), ("set", (ANN, self.one)))
        self.assertValue("{(all - {u}) for u in all}", 1, ("set", (ANN,)), ("set", (self.one,)))
        self.assertValue("{{v for v in all if not (v == u)} for u in (all - {ann})}", 1, ("set", (ANN,)))

    def test_bindings_hide_state_variables(self):
        found = run(program("u = {'a'}", "x = {u for u in all}", "y = {[v, u] for v in {u for u in u}}"), 1)
        self.assertEqual(found.count("x"), 2)
        self.assertEqual(found.value("y"), ("set", (("row", (("mark", "a"), ("set", (("mark", "a"),)))),)))
        self.assertTrue(found.holds(("some", "u", ALL, ("same", U, ANN))))
        self.assertTrue(found.holds(("same", U, ("set", ("mark", "a")))))


class TestsAndNumbersTest(RunsTestCase):
    """Points [9] and [10], by hand."""

    def test_quantifiers_over_nothing(self):
        found = run(program("x = {}"), 2)
        false = ("not", TRUE)
        for source in (X, ANN, ("mark", "a"), ("row", ALL)):
            self.assertTrue(found.holds(("every", "u", source, false)))
            self.assertFalse(found.holds(("some", "u", source, TRUE)))
        self.assertTrue(found.holds(("every", ("u", "v"), ALL, false)))
        self.assertFalse(found.holds(("every", "u", ALL, false)))
        self.assertTrue(found.holds(("some", "u", ALL, ("not", ("same", U, ANN)))))
        self.assertFalse(found.holds(("every", "u", ALL, ("not", ("same", U, ANN)))))

    def test_and_or_not(self):
        found = run(Program(), 0)
        false = ("not", TRUE)
        for a, b in itertools.product((True, False), repeat=2):
            t, u = (TRUE if k else false for k in (a, b))
            self.assertEqual([found.holds(("and", t, u)), found.holds(("or", t, u)), found.holds(("not", t))],
                             [a and b, a or b, not a])

    def test_numbers(self):
        n = FARTHER
        found = run(program("x = all"), n)
        many = ("count", X)
        for number, value in ((many, n + 1), (("plus", many, ("whole", 5)), n + 6), (("minus", ("whole", 5), many), 4 - n),
                              (("times", many, many), (n + 1) ** 2), (("whole", 10 ** 60), 10 ** 60),
                              (("minus", ("times", many, many), ("times", many, ("plus", many, ("whole", 1)))), -n - 1)):
            for sign, act in plain.SIGNS.items():
                for other, worth in ((many, n + 1), (("whole", 0), 0), (number, value)):
                    self.assertIs(found.holds(("compare", number, sign, other)), act(value, worth))

    def test_counts_that_hold_at_one_n_alone(self):
        given = program("if ((count(all) - 1) == 1" + "0" * 60 + "):", "  x = {ann}")
        self.assertEqual([run(given, n).count("x") for n in (FAR - 1, FAR, FAR + 1)], [0, 1, 0])
        self.assertEqual([run(given, n).course for n in (FAR - 1, FAR, FAR + 1)], [(False,), (True,), (False,)])


class StatementsTest(RunsTestCase):
    """Points [11] and [12], by hand."""

    def test_put_add_drop(self):
        given = program("x = {ann, 'a'}", "y = x", "y |= {'b'}", "x -= {ann}", "z |= 'c'", "w = ann", "w |= {w}", "v -= all")
        self.assertLikePlain(given, 2)
        found = run(given, 2)
        self.assertEqual(found.value("x"), ("set", (("mark", "a"),)))
        self.assertEqual([found.count(name) for name in "yzwv"], [3, 0, 1, 0])
        self.assertEqual(found.value("w"), ("set", (ANN,)))

    def test_variables_begin_empty(self):
        found = run(program("x = {y}"), 1)
        self.assertEqual([found.value("x"), found.value("y")], [("set", (("set", ()),)), ("set", ())])

    def test_if(self):
        for test, count in (("true", 1), ("not true", 2)):
            found = run(program(f"if {test}:", "  x = {ann}", "else:", "  x = {ann, 'a'}"), 0)
            self.assertEqual((found.count("x"), found.course), (count, (test == "true",)))

    def test_course_has_the_tests_of_if_and_while_in_order(self):
        given = program("while (count(x) < 2):", "  if (ann in x):", "    x |= {'a'}", "  else:", "    x |= {ann}", "if (ann in x):",
                        "  pass")
        found = run(given, 1)
        self.assertEqual(ending(found), ("rests", None, None, 3, (True, False, True, True, False, True)))
        self.assertLikePlain(given, 1)

    def test_values_at_the_moment(self):
        given = program("x = {ann}", "y = {x}", "x = {'a'}", "while (count(z) < 3):", "  z |= {[x, z]}", "  x = z")
        for n in (0, 1, FAR):
            found = run(given, n)
            self.assertEqual(found.value("y"), ("set", (("set", (ANN,)),)))
            self.assertEqual(found.count("z"), 3)


class LoopsTest(RunsTestCase):
    """Point [44]."""
    # The counter goes through as many states as are told before it comes back to one of them.
    ring = program("while true:", "  if (x == {}):", "    x = 'a'", "  else:", "    if (x == 'a'):", "      x = 'b'", "    else:",
                   "      if (x == 'b'):", "        x = 'c'", "      else:", "        x = 'a'")

    def test_round(self):
        for n in (0, 2, FARTHER):
            found = run(self.ring, n)
            self.assertEqual((found.end, found.entry, found.length, found.rounds), ("round", 1, 3, 4))
            self.assertEqual(found.value("x"), ("mark", "a"))

    def test_ends_at_just_most(self):
        for most in (1, 2, 3):
            found = run(self.ring, 1, most=most)
            self.assertEqual((found.end, found.entry, found.length, found.rounds), ("many", None, None, most))
            self.assertEqual(found.value("x"), ("mark", "?abc"[most]))
        # The while test with the number 4 is met in the state of the one with the number 1: that comes first.
        self.assertEqual(run(self.ring, 1, most=4).end, "round")
        self.assertEqual(run(self.ring, 1, most=5).end, "round")

    def test_rests_at_just_most(self):
        given = program("while (count(x) < 3):", "  x |= {[x]}")
        for most, end in ((1, "many"), (2, "many"), (3, "many"), (4, "rests"), (5, "rests")):
            for n in (0, 1, FAR):
                found = run(given, n, most=most)
                self.assertEqual((found.end, found.rounds, found.count("x")), (end, min(most, 4), min(most, 3)))
        self.assertEqual(run(program("while not true:", "  pass"), 0, most=1).end, "rests")
        self.assertEqual(run(program("while true:", "  pass"), 0, most=1).end, "round")

    def test_most_counts_all_while_statements_together(self):
        given = program("while (count(x) < 2):", "  x |= {[x]}", "while (count(y) < 2):", "  y |= {[y]}")
        for most in range(1, 8):
            self.assertLikePlain(given, 1, most)
        self.assertEqual([run(given, 1, most=5).end, run(given, 1, most=6).end], ["many", "rests"])

    def test_another_while_statement_is_no_round(self):
        self.assertEqual(ending(run(program("while not true:", "  pass", "while not true:", "  pass"), 1)),
                         ("rests", None, None, 2, (False, False)))
        given = program("while true:", "  while not true:", "    pass")
        self.assertEqual(ending(run(given, 1)), ("round", 0, 2, 2, (True, False)))
        self.assertLikePlain(given, 1)

    def test_rounds_of_inner_loops(self):
        given = program("while (count(y) < 2):", "  while (count(x) < 2):", "    x |= {[x]}", "  y |= {[y]}", "  x = {}")
        self.assertEqual(run(given, 3).end, "rests")
        for most in range(1, 12):
            self.assertLikePlain(given, 2, most)
        given = program("while true:", "  x = (all - x)", "  while not (ann in x):", "    x |= {ann}")
        for most in range(1, 8):
            for n in (0, 1, 2):
                self.assertLikePlain(given, n, most)

    def test_equal_states_that_are_built_in_other_ways(self):
        given = program("while true:", "  y = {{v for v in all if not (v in u)} for u in x}", "  x = {(all - {u}) for u in all}")
        for n in (0, 1, 2, 3, 4, 50, FAR):
            self.assertEqual(ending(run(given, n))[:4], ("round", 2, 1, 3), n)

    def test_states_that_are_equal_at_one_n_alone(self):
        for other, same in (("{{u, v} for u in all for v in all if not (u == v)}", 3), ("{{u} for u in all}", 2), (
                "{({u, v} | {w}) for u in all for [v, w] in {[v, w] for v in all for w in all if not (v == w)} "
                "if not (u in {v, w})}", 4)):
            given = program("x = {(all - {u}) for u in all}", "while true:", "  x = " + other, known="known")
            for n in (0, 1, 2, 3, 4, 5, FAR):
                if n < 5:
                    self.assertLikePlain(given, n)
                self.assertEqual(run(given, n).entry == 0, n in (0, same), (n, other))

    def test_many_rounds(self):
        given = program("while (count(x) < 300):", "  x |= {[y]}", "  y = {y}")
        found = run(given, FAR, most=400)
        self.assertEqual((found.end, found.rounds, found.count("x")), ("rests", 301, 300))
        self.assertEqual(value_text(found.value("y", most=10 ** 6)), "{" * 301 + "}" * 301)


class LikePlainTest(RunsTestCase):
    """Small n against plain loops."""

    def test_random_programs(self):
        for seed in range(250):
            sampler = Sampler(seed, known=((), ("ann",), ("ann", "bob"))[seed % 3])
            # All three variables are assigned, so that any test may be asked.
            rows = sampler.rows(4, 2 + seed % 2) + tuple(("drop", name, ("set",)) for name in sampler.states)
            given = Program(sampler.known, rows)
            tests = [sampler.t(2) for _ in range(3)]
            for n in (0, 1, 2, 3):
                self.assertLikePlain(given, n, most=6, tests=tests)

    def test_sets_in_sets(self):
        tests = [("same", X, ("var", "y")), ("within", X, ("var", "y")), ("in", ALL, ("join", X)), ("some", "u", X, (
            "in", ("without", ALL, U), ("var", "y"))), ("every", "u", X, ("some", "v", ("var", "y"), ("within", U, ("var", "v"))))]
        for seed in range(250):
            given = Program.read(mixed(seed))
            for n in (0, 1, 2, 3):
                self.assertLikePlain(given, n, tests=tests)

    def test_all_sets_to_begin_with(self):
        tests = [("compare", ("count", ("var", a)), ">", ("count", ("join", ("var", b)))) for a, b in ("xy", "yx", "xx")]
        for left, right in zip(POOL, POOL[3:] + POOL[:3]):
            for n in (4, 5):
                self.assertLikePlain(program(f"x = {left}", f"y = {right}", "z = (x & y)", known="known"), n, tests=tests)

    def test_a_stock_looks_the_same_under_every_renumbering(self):
        for seed in range(40):
            found = run(Program.read(mixed(seed)), 3)
            for name in found.program.variables:
                if found.count(name) < 40:
                    value = plain.from_shown(found.value(name, most=10 ** 4))
                    self.assertEqual(set(plain.renamings(value, 3)), {value})


class FarTest(RunsTestCase):
    """n of sixty and of three hundred digits: counts and sizes are those of the sizes through small ones."""

    def test_counts(self):
        for seed in range(120):
            given = Program.read(mixed(seed))
            runs = [run(given, n) for n in range(15, 26)]
            for far in (FAR, FARTHER + seed):
                found = run(given, far)
                for name in given.variables:
                    size = Size.through(15, [each.count(name) for each in runs])
                    self.assertLess(size.degree, 9)
                    self.assertEqual(found.count(name), size(far))
                    self.assertSizes(runs, found, name, far)

    def assertSizes(self, runs, found, name, far):
        amounts = []
        for each in runs + [found]:
            try:
                each.value(name, most=0)
                amounts.append(0)
            except TooMany as error:
                amounts.append(error.amount)
        size = Size.through(15, amounts[:-1])
        self.assertLess(size.degree, 10)
        self.assertEqual(amounts[-1], size(far))

    def test_random_programs(self):
        for seed in range(150):
            sampler = Sampler(seed, known=((), ("ann",), ("ann", "bob"))[seed % 3])
            given = Program(sampler.known, sampler.rows(4, 3))
            runs = [run(given, n, most=6) for n in range(40, 48)]
            found = run(given, FARTHER, most=6)
            self.assertEqual({ending(each) for each in runs}, {ending(found)})
            for name in given.variables:
                size = Size.through(40, [each.count(name) for each in runs])
                self.assertEqual(found.count(name), size(FARTHER))

    def test_closure(self):
        given = program("link = {[ann, u] for u in all if not (u == ann)}", "link |= {[u, bob] for u in all}", "reach = link",
                        "while not ({[u, w] for [u, v] in reach for [p, w] in reach if (v == p)} <= reach):",
                        "  reach |= {[u, w] for [u, v] in reach for [p, w] in reach if (v == p)}", known="known ann, bob")
        for n in (0, 1, 2, 3):
            self.assertLikePlain(given, n)
        found = run(given, FARTHER)
        self.assertEqual((found.end, found.count("link"), found.count("reach")), ("rests", 2 * FARTHER + 2, 2 * FARTHER + 2))

    def test_subsets_up_to_a_number_of_members(self):
        given = program("x = {{}}", "while (count(y) < 4):", "  x |= {(s | {u}) for s in x for u in all}", "  y |= {[y]}", known="known")
        n = FARTHER
        total = 1 + n + n * (n - 1) // 2 + n * (n - 1) * (n - 2) // 6 + n * (n - 1) * (n - 2) * (n - 3) // 24
        self.assertEqual(run(given, n).count("x"), total)
        self.assertEqual([run(given, n).count("x") for n in range(8)], [1, 2, 4, 8, 16, 31, 57, 99])


class AskingTest(RunsTestCase):
    """Points [46] and [47]."""
    given = program("x = all", "while (count(y) < 2):", "  y |= {[y]}", "z |= {u for u in x}")

    def test_variables(self):
        for n in (0, 2, FAR):
            found = run(self.given, n)
            self.assertEqual([found.count(name) for name in "xyz"], [n + 1, 2, n + 1])
            for name in ("u", "ann", "w", "", "all", None, 5, True, ("x",), ["x"], {"x": 1}):
                for call in (found.count, found.value):
                    self.assertRaisesWith((NoVariable, "variable"), name, call, name)
                self.assertRaisesWith((NoVariable, "variable"), name, found.value, name, most=0)

    def test_wrong_tests(self):
        found = run(self.given, 2)
        for test in (None, (), [], "true", ["true"], ALL, X, ("whole", 1), ("true", ()), ("nothere",), ("in", X), ("not", X),
                     ("same", ("known", "bob"), X), ("same", ("var", "ann"), X), ("some", "ann", ALL, TRUE), ("same", X, ["all"]),
                     ("some", "u", ALL, ("some", "u", ALL, TRUE)), ("compare", ("whole", -1), "<", ("whole", 1)),
                     ("compare", ("whole", True), "<", ("whole", 1)), ("compare", ("count", X), "=", ("whole", 1)),
                     ("in", ("var", "w"), ("known", "bob")), ("and", TRUE, ("put", "x", ALL)), ("put", "x", ALL)):
            self.assertRaisesWith((BadProgram, "place"), (), found.holds, test)

    def test_tests_40_deep(self):
        found = run(self.given, 2)
        test, deeper = TRUE, ("not", TRUE)
        for _ in range(39):
            test, deeper = ("not", test), ("not", deeper)
        self.assertIs(found.holds(test), False)
        self.assertRaisesWith((BadProgram, "place"), (), found.holds, deeper)
        e = X
        for _ in range(38):
            e = ("union", ("set",), e)
        self.assertIs(found.holds(("same", e, X)), True)

    def test_unknown_variables_in_tests(self):
        found = run(self.given, 2)
        for test, name in ((("in", ("var", "w"), X), "w"), (("same", ("var", "q"), ("var", "p")), "p"),
                           (("some", "u", ("var", "u"), TRUE), "u"), (("and", TRUE, ("within", X, U)), "u"),
                           (("some", "w", ALL, ("in", ("var", "w"), ("var", "v"))), "v"),
                           (("compare", ("count", ("var", "bb")), "<", ("count", ("var", "ba"))), "ba"),
                           (("every", "a", X, ("some", "b", ("var", "a"), ("in", ("var", "c"), ("var", "b")))), "c")):
            self.assertRaisesWith((NoVariable, "variable"), name, found.holds, test)

    def test_bound_variables_may_have_any_free_name(self):
        found = run(self.given, 2)
        self.assertIs(found.holds(("every", "x", X, ("in", ("var", "x"), ALL))), True)
        self.assertIs(found.holds(("some", "x", X, ("in", ("var", "x"), ("var", "x")))), False)
        self.assertIs(found.holds(("same", X, ALL)), True)

    def test_holds_in_the_last_state(self):
        for n in (0, 1, 2, 3, FARTHER):
            found = run(EXAMPLE, n)
            self.assertIs(found.holds(("same", ("var", "met"), ALL)), True)
            self.assertIs(found.holds(("compare", ("count", ("var", "met")), "<", ("whole", 3))), n < 2)

    def test_values_that_are_equal_at_one_n_alone(self):
        given = program("x = {(all - {u}) for u in all}", "y = {{u, v} for u in all for v in all if not (u == v)}",
                        "z = [all, x]", known="known")
        for n in (0, 1, 2, 3, 4, 5, FAR):
            found = run(given, n)
            y = ("var", "y")
            for t in (("same", X, y), ("same", ("row", ALL, y), ("var", "z")), ("in", X, ("set", ALL, y)),
                      ("in", ("var", "z"), ("set", ("row", ALL, y))), ("same", ("set", X, y), ("set", X)),
                      ("compare", ("count", ("set", X, y)), "==", ("whole", 1))):
                self.assertIs(found.holds(t), n in (0, 3), (n, t))
            self.assertIs(found.holds(("within", X, y)), n in (0, 3))
            self.assertIs(found.holds(("within", y, X)), n in (0, 1, 3))
            self.assertIs(found.holds(("same", ("meet", X, y), ("set",))), n != 3)

    def test_rows_that_are_equal_at_one_n_alone(self):
        but = ("without", ALL, ("set", U))
        for row, same in ((("row", U, ("set", V)), 2), (("row", V, ("set", V)), None), (("row", U, ("set", U)), None),
                          (("row", U, ("set", V), U), None), (("row", U), None), (("row", U, V), None)):
            test = ("some", "u", ALL, ("some", "v", ALL, ("and", ("not", ("same", U, V)), ("same", ("row", U, but), row))))
            for n in (0, 1, 2, 3, 4, FAR):
                self.assertIs(run(Program(), n).holds(test), n == same, (n, row))

    def test_tests_that_need_sets_of_all_but_a_few(self):
        but = ("gather", ("without", ALL, ("set", U)), (("u", ALL),), TRUE)
        single = ("gather", ("set", U), (("u", ALL),), TRUE)
        found = [run(program("x = all", known="known"), n) for n in (0, 1, 2, 3, 4, FAR)]
        self.assertEqual([each.holds(("same", but, single)) for each in found], [True, False, True, False, False, False])
        self.assertEqual([each.holds(("some", "a", but, ("in", ("var", "a"), single))) for each in found],
                         [False, False, True, False, False, False])


class ValueTest(RunsTestCase):
    """Points [48] to [50]."""

    def test_sizes(self):
        for text, size in (("ann", 0), ("'a'", 0), ("[]", 0), ("{}", 0), ("[ann, 'a', {}]", 0), ("{ann}", 1), ("{ann, 'a'}", 2),
                           ("{{}}", 1), ("{{ann}}", 2), ("[{ann}, {ann}]", 2), ("{{ann}, [{ann}]}", 4), ("{[{ann}, {ann}]}", 3),
                           ("all", 3), ("{all}", 4), ("{all, {all}}", 9), ("{[u, all] for u in all}", 12),
                           ("{{u, v} for u in all for v in all}", 6 + 9), ("[[all, all], [all, {all}]]", 13)):
            found = run(program("x = " + text), 2)
            self.assertEqual(found.value("x", most=size), found.value("x", most=10 ** 9))
            if size > 0:
                self.assertTooMany(size, found.value, "x", most=size - 1)
                self.assertTooMany(size, found.value, "x", most=0)

    def test_just_within_and_beyond_200(self):
        given = program("x = all", "y = {x}", "z = [x]")
        found = run(given, 199)
        self.assertEqual(len(found.value("x")[1]), 200)
        self.assertEqual(len(found.value("z")[1][0][1]), 200)
        self.assertTooMany(201, found.value, "y")
        found = run(given, 200)
        self.assertTooMany(201, found.value, "x")
        self.assertTooMany(201, found.value, "z")
        self.assertEqual(len(found.value("x", most=201)[1]), 201)

    def test_sizes_far_out(self):
        given = program("x = {[{u, v}, all] for u in all for v in all if not (u == v)}", known="known")
        n = FARTHER
        pairs = n * (n - 1) // 2
        self.assertTooMany(pairs * (1 + 2 + n), run(given, n).value, "x")
        self.assertEqual(run(program("x = {ann, {'a', [ann]}}"), n).value("x", most=4), run(program("x = {ann, {'a', [ann]}}"), 0).value("x"))

    def test_part(self):
        given = program("x = all", "y = {ann}", "z = ann", "w = {all}")
        found = run(given, 3)
        self.assertIsNone(found.part("y", "x"))
        self.assertIsNone(found.part("z", "y", most=0))
        self.assertIsNone(found.part("x", "x", most=0))
        self.assertIn(found.part("x", "y", most=0), [("other", k) for k in (1, 2, 3)])
        self.assertEqual(found.part("y", "z"), ANN)
        self.assertEqual(len(found.part("w", "x", most=4)[1]), 4)
        self.assertTooMany(4, found.part, "w", "x", most=3)

    def test_part_far_out(self):
        given = program("x = {(all - {u}) for u in all}", "x |= {all, {ann, 'a', 'b'}}", "y = {all}", "z = {{ann, 'a', 'b'}}")
        for n in (5, 300, FARTHER):
            found = run(given, n)
            self.assertTrue(same_value(found.part("x", "y"), ("set", (ANN, ("mark", "a"), ("mark", "b")))))
            self.assertTooMany(3, found.part, "x", "y", most=2)
            self.assertIsNone(found.part("y", "x"))
        found = run(program("x = {{[u, v] for v in all} for u in all}", "x |= {all}", "y = {all}"), FARTHER)
        self.assertTooMany(FARTHER + 1, found.part, "x", "y")
        self.assertIsNone(found.part("y", "x"))

    def test_part_of_no_variables(self):
        found = run(program("x = all"), 2)
        for a, b, shown in (("y", "x", "y"), ("x", "y", "y"), ("y", "z", "y"), ("z", "y", "z"), (None, "x", None), ("x", ["x"], ["x"])):
            self.assertRaisesWith((NoVariable, "variable"), shown, found.part, a, b)
            self.assertRaisesWith((NoVariable, "variable"), shown, found.part, a, b, most=0)


class WrongNumbersTest(RunsTestCase):
    """Point [43]."""

    def test_n(self):
        for n in (-1, -FARTHER):
            self.assertRaisesWith((BadValue, "shown"), n, run, EXAMPLE, n)
            self.assertRaisesWith((BadValue, "shown"), n, run, EXAMPLE, n, most=0)
        for n in NO_INTEGERS:
            self.assertRaisesWith((BadValue, "shown"), n, run, EXAMPLE, n)

    def test_most(self):
        for most in (0, -1, -FAR) + NO_INTEGERS:
            self.assertRaisesWith((BadValue, "shown"), most, run, EXAMPLE, 3, most=most)
        run(EXAMPLE, 3, most=1)
        run(EXAMPLE, 3, most=FARTHER)

    def test_most_is_passed_by_its_name(self):
        with self.assertRaises(TypeError):
            run(EXAMPLE, 3, 60)
        with self.assertRaises(TypeError):
            run(EXAMPLE, 3).value("met", 60)
        with self.assertRaises(TypeError):
            run(EXAMPLE, 3).part("met", "near", 60)


class CopiesTest(RunsTestCase):
    """Point [14]: nothing that is passed changes, and later changes change nothing."""

    def test_what_is_passed_stays(self):
        before = (EXAMPLE.known, EXAMPLE.statements, EXAMPLE.variables, EXAMPLE.text)
        found = run(EXAMPLE, 4)
        found.value("met"), found.part("met", "near"), found.count("near"), found.holds(TRUE)
        self.assertEqual((EXAMPLE.known, EXAMPLE.statements, EXAMPLE.variables, EXAMPLE.text), before)

    def test_asking_changes_nothing(self):
        for n in (1, 2, 40):
            found = run(program("x = {(all - {u}) for u in all}", "y = {{u} for u in all}", known="known"), n)
            def told():
                return (ending(found), [found.count(name) for name in "xy"], found.value("x", most=10 ** 4), found.part("x", "y"),
                        found.holds(("same", X, ("var", "y"))))
            self.assertEqual(told(), told())

    def test_a_program_that_is_changed_later(self):
        for n in (1, 2, FAR):
            given = program("x = {(all - {u}) for u in all}", "y = {{u} for u in all}", known="known")
            found = run(given, n)
            given.statements, given.known, given.variables = (), ("x", "y"), ()
            self.assertEqual((found.count("x"), found.holds(("same", X, ("var", "y")))), (n, n == 2))
            if n < 3:
                self.assertIs(found.part("x", "y") is None, n == 2)


if __name__ == "__main__":
    unittest.main()
