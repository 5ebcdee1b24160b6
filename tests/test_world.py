"""Points [79] to [92] for everyname/world.py."""

import itertools
import unittest

import plain
from everyname.errors import Broken, EverynameError
from everyname.families import Family
from everyname.forms import form
from everyname.programs import Program
from everyname.regions import solved, value_pieces, whole_region
from everyname.spans import Span
from everyname.steps import steps_of
from everyname.values import same_value
from everyname.world import World
from helpers import FAR, FARTHER, RaisingTestCase, check, family, program, tree

ANN = ("known", "ann")
TRUE = ("true",)
LINK = "link = {[ann, u] for u in all if not (u == ann)}"
BACK = "link |= {[u, ann] for u in all if not (u == ann)}"
REACH = ("{[u, v] for [u, v] in link}", "{[u, w] for [u, v] in reach for [x, w] in link if (v == x)}")
FEW = "(count(link) <= (count(all) + 5))"
CALM = "(every u in all: not ([u, u] in reach))"
NO_WORDS = (None, 3, "", "Ann", "a1", "two words", "abcdefghijklm", ("ann",), ["ann"], True)
RESERVED = ("all", "if", "while", "pass", "true", "known")


def clauses(*texts, known=("ann",)):
    return tuple(tree(text, known) for text in texts)


def linked():
    """The world of the example behind [92], ahead of the links back."""
    world = World(("ann",))
    world.do(program(LINK))
    world.rule("reach", clauses(*REACH))
    world.guard("few", check(FEW, ("ann",)))
    world.guard("calm", check(CALM, ("ann",)))
    return world


def told(world):
    """All that a world tells of itself."""
    names = [line.split()[0] for line in world.page.split("\n") if line.startswith("  ") and line.split()[1:2] in (["="], ["|="], ["-="])]
    names += [line.split()[1] for line in world.page.split("\n") if line.startswith("rule ")]
    return (world.page, len(world), world.allowed, world.names,
            [(name, world[name].sizes.pieces[-1][1].row, name in world) for name in names if name not in world.names])


class WorldTestCase(RaisingTestCase):
    def assertRefused(self, world, kind, shown, call, *given):
        """Check that a step raises an error and changes nothing."""
        before, copy = told(world), world.past(len(world))
        self.assertRaisesJust(kind, shown, call, *given)
        self.assertEqual(told(world), before)
        self.assertEqual(world, copy)

    def assertBroken(self, world, name, n, call, *given):
        self.assertRefused(world, "Broken", {"name": name, "n": n}, call, *given)

    def assertRestless(self, world, name, n, end, call, *given):
        self.assertRefused(world, "Restless", {"name": name, "n": n, "end": end}, call, *given)

    def assertBadRule(self, world, name, clause, *given):
        self.assertRefused(world, "BadRule", {"name": name, "clause": clause}, world.rule, *given)

    def assertReadsBack(self, world):
        again = World.read(world.page)
        self.assertEqual(again, world)
        self.assertEqual(again.page, world.page)
        self.assertEqual(len(again), len(world))


class ExampleTest(WorldTestCase):
    def test_example(self):
        world = linked()
        self.assertEqual(world["reach"], world["link"])
        back = program(BACK)
        found = world.breaks(back)
        self.assertEqual(found, (("few", Span.since(7)), ("calm", Span.since(1))))
        self.assertBroken(world, "few", 7, world.do, back)
        world.drop("few")
        self.assertBroken(world, "calm", 1, world.do, back)
        world.drop("calm")
        world.do(back)
        self.assertEqual(world["reach"], family("{[u, v] for u in all for v in all}", "ann").only(Span.since(1)))
        self.assertReadsBack(world)

    def test_examples_of_the_interface(self):
        w = World(("ann",))
        w["link"] = ("gather", ("row", ANN, ("var", "u")), (("u", ("all",)),), ("not", ("same", ("var", "u"), ANN)))
        self.assertEqual([w["link"].count(4), len(w), "link" in w, w.names], [4, 1, True, ("ann",)])
        self.assertBroken(w, "few", 5, w.guard, "few", ("compare", ("count", ("var", "link")), "<", ("whole", 5)))


class MakingTest(WorldTestCase):
    """Points [79] and [82]."""

    def test_new_worlds(self):
        for known in ((), ("ann",), ("bob", "ann")):
            world = World(known)
            self.assertEqual((world.names, world.allowed, len(world), world.values_at(3)), (known, 60, 0, {}))
            self.assertEqual(world["x"], family("{}", *known))
            self.assertNotIn("x", world)
        self.assertEqual(World(), World(()))
        for known in ("ann", ["ann"], ("ann", "ann"), ("all",), (3,), None, ("Ann",), {"ann": 1}):
            self.assertRaisesJust("BadProgram", (), World, known)

    def test_getting_families(self):
        world = linked()
        found = world["link"]
        self.assertIs(type(found), Family)
        self.assertEqual(found.known, ("ann",))
        before = found & found
        world.undo(), world.undo(), world.undo()
        world.do(program("link = all"))
        self.assertEqual(found, before)
        found |= family("{'a'}", "ann")
        self.assertEqual(world["link"], family("all", "ann"))
        for name in NO_WORDS + RESERVED + ("ann",):
            self.assertRaisesJust("BadName", name, world.__getitem__, name)

    def test_in(self):
        world = linked()
        self.assertTrue("link" in world and "reach" in world)
        for name in NO_WORDS + RESERVED + ("ann", "few", "x"):
            self.assertFalse(name in world)
        world.rule("none", ())
        self.assertTrue("none" in world)
        world["empty"] = tree("{}")
        world["once"] = tree("{u for u in {'a'} if (count(all) == 1" + "0" * 60 + ")}")
        world["mark"] = tree("'a'")
        self.assertEqual([name in world for name in ("empty", "once", "mark")], [False, True, False])

    def test_not_iterated(self):
        with self.assertRaises(TypeError):
            iter(World())
        with self.assertRaises(TypeError):
            list(linked())


class DoTest(WorldTestCase):
    """Point [81]."""

    def test_like_plain_loops(self):
        rows = ("x = {[u, v] for u in all for v in all if not (u == v)}", "y = {ann}", "while (count(y) < 3):",
                "  y |= {v for [u, v] in x if (u in y)}", "  if (count(y) == count(all)):", "    y |= {'a', 'b', 'c'}", "z = {(all - {u}) for u in y}")
        world = World(("ann",))
        world.do(program(*rows))
        world.do(program("y -= {ann}", "w = y"))
        for n in range(4):
            loops = plain.PlainRun(("ann",), program(*rows, "y -= {ann}", "w = y").statements, "wxyz", n)
            for name, value in world.values_at(n).items():
                self.assertShown(value, loops.state[name])

    def test_families_are_the_variables(self):
        world = World(("ann",))
        world.do(program("x = all"))
        world.do(program("y = (x - {ann})", "x = z"))
        self.assertEqual([world["x"], world["y"]], [family("{}", "ann"), family("(all - {ann})", "ann")])
        self.assertEqual(world["y"].count(FARTHER), FARTHER)
        self.assertNotIn("z", world)

    def test_variables_that_are_assigned_or_not(self):
        world = World()
        world.do(program("x = y", "if not true:", "  z = all", known="known"))
        self.assertEqual(list(world.values_at(0)), ["x", "z"])
        world.rule("y", ())
        self.assertRefused(world, "BadName", "z", world.rule, "z", ())

    def test_known_names(self):
        world = World(("bob", "ann"))
        world.do(program("x = {ann}", known="known ann"))
        self.assertIn(ANN, world["x"])
        self.assertRefused(world, "OtherStock", {"known": ("ann", "bob"), "other": ("ann", "cy")}, world.do,
                           program("x = all", known="known cy, ann"))
        for row, name in (("ann = all", "ann"), ("x = {bob for bob in all}", "bob"), ("x = {u for u in all if (some ann in u: (u == bob))}", "ann"),
                          ("while (every bob in all: true):", "bob"), ("x = (zed | ann)", "ann"), ("x = {[ann, bob] for [ann, bob] in all}", "ann")):
            rows = (row, "  pass") if row.endswith(":") else (row,)
            self.assertRefused(world, "BadName", name, world.do, program(*rows, known="known"))
            self.assertRefused(world, "BadName", name, world.breaks, program(*rows, known="known"))
        self.assertRefused(world, "OtherStock", {"known": ("ann", "bob"), "other": ("cy",)}, world.do, program("ann = all", known="known cy"))

    def test_rules_are_not_assigned(self):
        world = linked()
        self.assertRefused(world, "BadName", "reach", world.do, program("x = reach", "if not true:", "  reach |= {}"))
        world.rule("all" * 2, ())
        self.assertRefused(world, "BadName", "allall", world.do, program("reach = {}", "allall = {}"))
        self.assertRefused(world, "BadName", "ann", world.do, program("reach = ann", known="known"))
        world.do(program("x = {reach for reach in reach}"))
        self.assertEqual(world["x"], world["link"])

    def test_rules_keep_their_values_while_a_program_runs(self):
        world = linked()
        world.drop("few"), world.drop("calm")
        world.do(program(BACK, "x = reach"))
        self.assertEqual(world["x"], family("{[ann, u] for u in all if not (u == ann)}", "ann"))
        self.assertEqual(world["reach"].count(3), 16)

    def test_restless(self):
        world = World()
        for rows, n, end in ((("while true:", "  pass"), 0, "round"), (("while (count(all) == 1" + "0" * 60 + "):", "  pass"), FAR, "round"),
                             (("while (count(x) < count(all)):", "  x |= {[y]}", "  y = {y}"), 60, "many"),
                             (("while ((count(all) >= 7) and (x == x)):", "  x = {x}"), 7, "many")):
            self.assertRestless(world, "", n, end, world.do, program(*rows, known="known"))
            self.assertRestless(world, "", n, end, world.breaks, program(*rows, known="known"))
        world.allow(3)
        self.assertRestless(world, "", 3, "many", world.do, program("while (count(x) < count(all)):", "  x |= {[y]}", "  y = {y}", known="known"))
        self.assertRestless(world, "", 0, "many", world.do, program("while (count(x) < 3):", "  x |= {[y]}", "  y = {y}", known="known"))
        world.do(program("while (count(x) < 2):", "  x |= {[y]}", "  y = {y}", known="known"))
        # The families are as they were behind the last step, so no test holds now.
        world.do(program("while (count(x) < 2):", "  x |= {[y]}", known="known"))

    def test_setting_an_item(self):
        world = World(("ann",))
        world["x"] = tree("{ann}", ("ann",))
        world["y"] = tree("(x | all)")
        self.assertEqual(world.page, "known ann\ndo\n  x = {ann}\ndo\n  y = (x | all)")
        for name in NO_WORDS + RESERVED + ("ann",):
            self.assertRefused(world, "BadProgram", (), world.__setitem__, name, ("all",))
        for e in (None, TRUE, ("known", "bob"), ["all"], ("var", "ann"), ("row", ("var",)), ("gather", ("all",), (("ann", ("all",)),), TRUE)):
            self.assertRefused(world, "BadProgram", (), world.__setitem__, "x", e)
        world.rule("r", ())
        self.assertRefused(world, "BadName", "r", world.__setitem__, "r", ("all",))
        world.guard("g", check("(ann in x)", ("ann",)))
        self.assertBroken(world, "g", 0, world.__setitem__, "x", ("set",))

    def test_programs_that_are_changed_later(self):
        world, given = World(("ann",)), program("x = all")
        world.do(given)
        page = world.page
        given.statements, given.known = (), ("cy",)
        self.assertEqual(world.page, page)
        self.assertReadsBack(world)


class RulesTest(WorldTestCase):
    """Point [83]."""

    def rounds(self, texts, name, known, values, n):
        """The set of a rule by plain loops, with the number of rounds that change it."""
        loops, found, many = plain.Plain(known, n), plain.EMPTY, 0
        while True:
            wider = plain.members(found)
            for text in texts:
                wider = wider | plain.members(loops.value(tree(text, known), {**values, name: found}))
            if wider == plain.members(found):
                return found, many
            found, many = ("set", wider), many + 1

    def test_like_plain_loops(self):
        world = World(("ann",))
        world.do(program("link = {[ann, u] for u in all if not (u == ann)}", "link |= {[u, v] for u in all for v in all if (count(all) <= 3)}"))
        for texts in ((), REACH, REACH[:1], REACH[1:], ("{[u, v] for u in all for v in all}",),
                      ("{[] for u in all}",),
                      ("{u for u in all if (count(all) >= 3)}", "{[u, v] for u in r for v in r if ((u in all) and (v in all))}"),
                      ("{[u, u] for u in all}", "{[u, v] for [u, x] in r for [y, v] in link if (x == y)}", "{[v, u] for [u, v] in r}"),
                      ("{{u} for u in all}", "{(u | v) for u in r for v in r if (count((u | v)) <= 3)}"),
                      ("{{u} for u in all}", "{(all - u) for u in r}"),
                      ("{[u, v, w] for u in all for v in link for w in all if (count(all) <= 2)}", "{[w, u] for [u, v, w] in r}")):
            name = "reach" if texts and "reach" in "".join(texts) else "r"
            world.rule(name, clauses(*texts))
            for n in range(4):
                values = {"link": plain.from_shown(world["link"](n))}
                value, _ = self.rounds(texts, name, ("ann",), values, n)
                self.assertShown(world[name](n, 10 ** 6), value)
            self.assertReadsBack(world)
            world.undo()

    def test_three_own_sources(self):
        world = World()
        texts = ("{[u, u] for u in all}", "{[u, v] for u in all for v in all if (count(all) == 2)}",
                 "{[u, z] for [u, v] in r for [w, x] in r for [y, z] in r if ((v == w) and (x == y))}", "{[[], u] for [u, v] in r}")
        world.rule("r", clauses(*texts, known=()))
        for n in range(4):
            self.assertShown(world["r"](n, 10 ** 6), self.rounds(texts, "r", (), {}, n)[0])

    def test_rules_that_read_rules_ahead(self):
        world = linked()
        world.drop("few"), world.drop("calm")
        world.rule("both", clauses("{u for [u, v] in reach if ([v, u] in reach)}"))
        self.assertFalse(world["both"])
        world.do(program(BACK))
        self.assertEqual(world["both"], family("all", "ann").only(Span.since(1)))
        # A rule of a name that has one takes its place, and those behind it follow.
        world.rule("reach", clauses("{[u, u] for u in {ann}}"))
        self.assertEqual(world["both"], family("{ann}", "ann"))
        self.assertBadRule(world, "reach", 0, "reach", clauses("{u for u in both}"))
        world.rule("both", ())
        self.assertBadRule(world, "reach", 0, "reach", clauses("{u for u in both}"))
        self.assertReadsBack(world)

    def test_restless_rules(self):
        world = World()
        grow = clauses("{[] for u in {[]}}", "{[u] for u in r}", known=())
        self.assertRestless(world, "r", 0, "many", world.rule, "r", grow)
        few = clauses("{[[], {}] for u in {[]}}", "{[{u}, v] for [v, u] in r}", known=())
        self.assertRestless(world, "r", 0, "many", world.rule, "r", few)
        late = clauses("{[] for u in {[]}}", "{[u] for u in r if (count(all) >= 1" + "0" * 60 + ")}", known=())
        self.assertRestless(world, "r", FAR, "many", world.rule, "r", late)
        once = clauses("{[] for u in {[]}}", "{[u] for u in r if (count(all) == 1" + "0" * 60 + ")}", known=())
        self.assertRestless(world, "r", FAR, "many", world.rule, "r", once)

    def test_what_does_not_rest_is_not_followed_further(self):
        """Where there is one name, each round adds one value; where there are more, far too many for sixty rounds."""
        world = World()
        world.do(program("y = {{u} for u in all}", known="known"))
        self.assertRestless(world, "r", 1, "many", world.rule, "r", clauses("{u for u in all}", "{[u, v] for u in r for v in y}", known=()))
        rows = ("x = all", "while not (x == {}):", "  x = {[u, v] for u in x for v in all}")
        self.assertRestless(world, "", 1, "many", world.do, program(*rows, known="known"))
        self.assertRestless(world, "", 1, "many", world.breaks, program(*rows, known="known"))
        world.rule("r", clauses("{u for u in x}", "{[u, v] for u in r for v in y}", known=()))
        self.assertRestless(world, "r", 1, "many", world.do, program("x = all", known="known"))
        ann = World(("ann",))
        self.assertRestless(ann, "", 0, "many", ann.do, program(*rows))
        e = tree("{u for u in all if ((count(all) == 3) or (count(all) == 5))}")
        regions = [(low, high, listed, {"x": value}) for low, high, listed, value in value_pieces((), whole_region(), e)]
        for task in (("rule", "r", clauses("{u for u in x}", "{[u] for u in r}", known=()), 5),
                     ("do", ("x",), steps_of(program("while not (x == {}):", "  x = x").statements), 5)):
            found = solved((), regions, task)
            self.assertEqual([(low, high) for low, high, _, _ in found], [(0, 2), (3, 3)])

    def test_just_allowed_rounds(self):
        world = World()
        chain = clauses("{'a' for u in {[]}}", "{'b' for u in r if (u == 'a')}", "{'c' for u in r if (u == 'b')}", "{'d' for u in r if (u == 'c')}", known=())
        for k in (1, 2, 3):
            world.allow(k)
            self.assertRestless(world, "r", 0, "many", world.rule, "r", chain)
        world.allow(4)
        world.rule("r", chain)
        self.assertEqual(world["r"].count(5), 4)
        self.assertRestless(world, "r", 0, "many", world.allow, 3)

    def test_many_rounds(self):
        world = World()
        world.allow(1000)
        grow = clauses("{[] for u in {[]}}", "{[u] for u in r}", known=())
        self.assertRestless(world, "r", 0, "many", world.rule, "r", grow)

    def test_a_do_that_makes_a_rule_restless(self):
        world = World()
        world.rule("r", clauses("{u for u in s}", "{[u] for u in r}", known=()))
        world.rule("t", clauses("{u for u in s}", "{[u] for u in t}", known=()))
        self.assertRestless(world, "r", 0, "many", world.do, program("s = {[]}", known="known"))
        self.assertRestless(world, "r", 1, "many", world.do, program("s = all", known="known"))
        self.assertRestless(world, "r", FAR, "many", world.breaks, program("s = {u for u in all if (count(all) == 1" + "0" * 60 + ")}", known="known"))
        world.do(program("s = {}", known="known"))

    def test_bad_names(self):
        world = linked()
        for name in NO_WORDS + RESERVED + ("ann", "link"):
            self.assertRefused(world, "BadName", name, world.rule, name, ())
            self.assertRefused(world, "BadName", name, world.rule, name, None)
        world.rule("ahead", clauses("{u for u in behind}"))
        self.assertRefused(world, "BadName", "behind", world.rule, "behind", None)
        world.do(program("x = {}"))
        self.assertRefused(world, "BadName", "x", world.rule, "x", ())
        world.rule("u", ())
        world.rule("first", ())
        world.rule("second", clauses("{u for u in first}"))
        # What a rule behind the place reads does not matter.
        world.rule("first", clauses("{u for u in all}"))
        self.assertEqual(world["second"], family("all", "ann"))

    def test_bad_clauses(self):
        world = linked()
        good = clauses("{u for u in all}")[0]
        for found in (None, [good], "x", good[0], (good,) * 5, {0: good}):
            self.assertBadRule(world, "r", -1, "r", found)
        for e in (None, ("all",), ("set", good), TRUE, "x", list(good), ("gather",), tree("{u for u in {bob}}", ("bob",)),
                  tree("{u for u in {v for v in {w for w in r}}}"), tree("{u for u in (r | r)}"), tree("{[u, r] for u in all}"),
                  tree("{u for u in all if (u in r)}"), tree("{r for r in all}"), tree("{u for u in all if (some r in all: true)}"),
                  tree("{u for u in all for v in {r for r in all}}"), tree("{r for u in r}"), tree("{u for u in all if (some [v, r] in u: true)}"),
                  tree("{[x] for x in r if (count(r) < 3)}"), ("gather", ("var", "u"), (("u", ("all",)), ("u", ("all",))), TRUE)):
            for place in range(4):
                self.assertBadRule(world, "r", place, "r", (good,) * place + (e,))
            self.assertBadRule(world, "r", 1, "r", (good, e, None))
        world.rule("r", (good,) * 4)
        world.rule("s", clauses("{[u, v] for u in s for v in s if ((u in r) and (some w in r: (w == x)))}"))
        self.assertBadRule(world, "r", 0, "r", clauses("{u for u in s}"))
        self.assertBadRule(world, "reach", 1, "reach", clauses("{u for u in all}", "{u for u in {ann} if (u in s)}"))
        world.rule("t", clauses("{u for u in all if (some v in s: (v in r))}", "{u for u in t for v in {w for w in s}}"))

    def test_places_of_own_sources(self):
        world = World()
        world.rule("r", clauses("{u for u in all}", "{[u, v] for u in r for v in {w for w in all} for x in r if ((u in all) and (x in all))}", known=()))
        self.assertEqual(world["r"].count(2), 2 + 4)


class GuardsTest(WorldTestCase):
    """Points [84] and [85]."""

    def test_which_guard_and_n(self):
        world = World()
        world.guard("one", check("(count(x) <= 1" + "0" * 30 + ")"))
        world.guard("two", check("not (count(x) == 5)"))
        self.assertBroken(world, "one", 10 ** 30 + 1, world.do, program("x = all", known="known"))
        world.guard("one", TRUE)
        self.assertBroken(world, "two", 5, world.do, program("x = all", known="known"))
        self.assertEqual(world.breaks(program("x = all", known="known")), (("two", Span.single(5)),))
        self.assertEqual(world.breaks(program("x = {}", known="known")), ())
        world.guard("one", check("not (count(x) == 7)"))
        self.assertBroken(world, "one", 7, world.do, program("x = all", known="known"))
        self.assertEqual(world.breaks(program("x = all", known="known")), (("one", Span.single(7)), ("two", Span.single(5))))
        self.assertEqual([name for name, _ in world.breaks(program("x = all", known="known"))], ["one", "two"])

    def test_a_guard_that_does_not_hold_when_it_is_set(self):
        world = World()
        world.do(program("x = all", known="known"))
        self.assertBroken(world, "g", FAR, world.guard, "g", check("not (count(x) == 1" + "0" * 60 + ")"))
        self.assertBroken(world, "g", 0, world.guard, "g", ("not", TRUE))
        world.guard("g", check("(count(x) >= 0)"))
        self.assertBroken(world, "g", 3, world.guard, "g", check("(count(x) < 3)"))

    def test_names(self):
        world = linked()
        for name in NO_WORDS + RESERVED:
            self.assertRefused(world, "BadName", name, world.guard, name, None)
            self.assertRefused(world, "BadName", name, world.guard, name, None, (("all", "all"),))
        for name in ("ann", "link", "reach", "few"):
            world.guard(name, TRUE)
            world.drop(name)
            self.assertRefused(world, "BadName", name, world.drop, name)
        for name in NO_WORDS + RESERVED:
            self.assertRefused(world, "BadName", name, world.drop, name)

    def test_before(self):
        world = World(("ann",))
        world.do(program("x = {ann}"))
        world.guard("grows", check("(old <= x)"), (("old", "x"),))
        world.do(program("x = all"))
        self.assertBroken(world, "grows", 1, world.do, program("x = {ann}"))
        world.do(program("x |= {'a'}"))
        self.assertBroken(world, "grows", 0, world.do, program("x = {'a'}"))
        world.guard("rises", check("(count(x) >= (count(old) + count(y)))"), (("old", "x"), ("y", "y")))
        self.assertBroken(world, "rises", 0, world.guard, "rises", check("(count(x) > count(old))"), (("old", "x"),))
        self.assertReadsBack(world)

    def test_a_past_hides_a_family(self):
        world = World()
        world.do(program("x = all", "y = {[]}", known="known"))
        world.guard("g", check("(x == {[]})"), (("x", "y"),))
        world.do(program("x = {}", known="known"))
        # y was {[]} ahead of this step.
        world.do(program("y = {}", known="known"))
        self.assertBroken(world, "g", 0, world.do, program("x = all", known="known"))
        self.assertBroken(world, "g", 0, world.do, program("y = {[]}", known="known"))

    def test_past_of_rules(self):
        world = World(("ann",))
        world.do(program(LINK))
        world.rule("reach", clauses(*REACH))
        world.guard("g", check("(count(reach) <= (count(old) + 1))"), (("old", "reach"),))
        self.assertBroken(world, "g", 1, world.do, program(BACK))
        world.do(program("link |= {[ann, ann]}"))
        self.assertBroken(world, "g", 1, world.rule, "reach", clauses(*REACH, "{[[], u] for u in all}"))
        self.assertEqual(world["reach"].count(3), 4)

    def test_a_step_that_changes_no_family_has_the_past_of_now(self):
        world = World()
        world.do(program("x = all", known="known"))
        world.guard("g", check("((old == x) or (count(old) == 0))"), (("old", "x"),))
        self.assertBroken(world, "g", 1, world.do, program("x = {}", known="known"))
        for call, given in ((world.allow, 50), (world.drop, "h"), (world.know, "bob")):
            if call == world.drop:
                world.guard("h", TRUE)
            call(given)
        # Where old and x must differ, no such step is allowed, nor is the guard itself.
        self.assertBroken(world, "s", 0, world.guard, "s", check("not (old == x)"), (("old", "x"),))

    def test_words_of_before(self):
        world = linked()
        for before, name in (((("all", "x"),), "all"), ((("x", "all"),), "all"), ((("ann", "if"),), "ann"), ((("x", "ann"), ("if", "y")), "ann"),
                             ((("x", "y"), ("x", "all")), "x"), ((("x", "y"), ("z", "x"), ("Q", "x")), "Q"), ((("x", ""), ("x", "y")), ""),
                             ((("x", "x"), ("y", "x"), ("y", "y")), "y"), (((3, "x"),), 3), ((("x", None),), None)):
            self.assertRefused(world, "BadName", name, world.guard, "g", None, before)
        world.guard("g", TRUE, (("x", "y"), ("y", "x"), ("z", "x"), ("link", "link")))
        self.assertReadsBack(world)

    def test_wrong_tests(self):
        world = linked()
        for test in (None, ("all",), "true", ["true"], ("not",), check("(bob in x)", ("bob",)), ("some", "ann", ("all",), TRUE),
                     ("in", ("var", "all"), ("all",)), ("compare", ("whole", True), "<", ("whole", 1))):
            self.assertRefused(world, "BadProgram", (), world.guard, "g", test)
            self.assertRefused(world, "BadProgram", (), world.guard, "g", test, (("x", "y"),))
            self.assertRefused(world, "BadProgram", (), world.span, test)

    def test_guards_of_nothing_told(self):
        world = World()
        world.guard("g", check("(x == {})"))
        self.assertBroken(world, "g", 1, world.do, program("x = all", known="known"))
        self.assertEqual(str(world.span(check("(count(x) == 0)"))), "0-")

    def test_guard_set_anew_takes_its_place(self):
        world = World()
        world.guard("one", TRUE), world.guard("two", check("(count(x) < 9)"))
        world.guard("one", check("(count(x) < 5)"))
        self.assertBroken(world, "one", 5, world.do, program("x = all", known="known"))
        world.drop("one")
        self.assertBroken(world, "two", 9, world.do, program("x = all", known="known"))
        world.guard("one", check("(count(x) < 5)"))
        self.assertBroken(world, "two", 9, world.do, program("x = all", known="known"))

    def test_span(self):
        world = linked()
        for text, span in ((FEW, "0-"), ("(count(link) == 1" + "0" * 60 + ")", "1" + "0" * 60), ("(reach == link)", "0-"), ("(x == link)", "0"),
                           ("(some u in all: (some v in reach: ([u, u] == v)))", "none")):
            self.assertEqual(str(world.span(check(text, ("ann",)))), span)

    def test_guards_like_plain_loops(self):
        texts = ("(count(x) <= count(y))", "(x <= y)", "(every u in x: (some v in y: (u in v)))", "(count(old) <= count(x))", "(some u in y: (u == x))")
        rows = ("x = all", "y = {{u} for u in all}", "x = {u for u in all if (count(all) >= 2)}", "y = {all, x}", "x = {x}")
        for first, second in itertools.product(rows, repeat=2):
            world = World(("ann",))
            world.do(program(first))
            for number, text in enumerate(texts):
                world.guard("g", ("or", ("not", check(text)), check(text)), (("old", "x"),))
                states = []
                for n in range(4):
                    before = plain.PlainRun(("ann",), program(first).statements, "xy", n).state
                    after = plain.PlainRun(("ann",), program(first, second).statements, "xy", n).state
                    states.append(plain.Plain(("ann",), n).holds(check(text), {**after, "old": before["x"]}))
                other = world.past(1)
                try:
                    other.guard("g", check(text), (("old", "x"),))
                except Broken:
                    continue
                found = [span for _, span in other.breaks(program(second))]
                self.assertEqual([not found or n not in found[0] for n in range(4)], states)


class KnowTest(WorldTestCase):
    """Points [86] and [87]."""

    def test_know(self):
        world = linked()
        world.drop("few"), world.drop("calm")
        world.do(program(BACK))
        world.do(program("y = {(all - {u}) for u in all}", "z = {u for u in all if (count(all) == 4)}"))
        before = {name: world[name] for name in ("link", "y", "z", "reach", "nothing")}
        world.know("bob")
        self.assertEqual(world.names, ("ann", "bob"))
        for name, found in before.items():
            self.assertEqual(world[name], found.at_known("bob"))
        self.assertEqual(str(world["z"].span()), "2")
        world.do(program("x = {bob}", known="known bob"))
        self.assertReadsBack(world)
        world.undo(), world.undo()
        self.assertEqual(world.names, ("ann",))
        self.assertEqual(world["y"], before["y"])

    def test_deep_values(self):
        world = World()
        world.allow(1000)
        world.do(program("y = all", "while (count(x) < 700):", "  x |= {z}", "  z = {z}", "  y = {y}", known="known"))
        before = world["y"]
        world.know("ann")
        self.assertEqual(world["y"], before.at_known("ann"))
        self.assertEqual(form(world["y"]).depends, ())
        self.assertRaisesJust("TooMany", 700 + 3, world["y"], 2)

    def test_rules_that_read_no_family(self):
        world = World()
        world.rule("r", clauses("{[u] for u in all}", "{u for u in all if (count(all) == 3)}", known=()))
        before = world["r"]
        world.know("ann")
        self.assertEqual(world["r"], before.at_known("ann"))
        self.assertEqual(world["r"], family("({[u] for u in all} | {u for u in all if (count(all) == 3)})", "ann"))

    def test_what_was_at_stock_0_is_gone(self):
        world = World()
        world.do(program("x = {u for u in {'a'} if (count(all) == 0)}", known="known"))
        self.assertTrue("x" in world)
        world.know("bob")
        self.assertFalse("x" in world)
        world.do(program("x |= {}", known="known bob"))

    def test_bad_words(self):
        world = linked()
        world.guard("old", check("(every q in past: true)"), (("past", "now"),))
        for word in NO_WORDS + RESERVED + ("ann", "link", "reach", "u", "v", "w", "x", "q", "past", "now"):
            self.assertRefused(world, "BadName", word, world.know, word)
        world.know("few")
        world.know("y")
        self.assertEqual(world.names, ("ann", "few", "y"))
        world.do(program("z = {a for a in all}"))
        world.know("a")

    def test_guards_at_know(self):
        world = World()
        world.do(program("x = {[]}", known="known"))
        world.guard("g", check("((old == x) or (x == {[], {}}))"), (("old", "x"),))
        world.do(program("x = {[], {}}", known="known"))
        world.know("ann")
        world.know("bob")
        self.assertReadsBack(world)

    def test_allow(self):
        world = World()
        for k in (0, -1, 1001, FARTHER, True, False, None, "5", 5.0, (5,)):
            self.assertRefused(world, "BadValue", k, world.allow, k)
        for k in (1, 1000, 7):
            world.allow(k)
            self.assertEqual(world.allowed, k)
        self.assertEqual(world.page, "known\nallow 1\nallow 1000\nallow 7")


class HistoryTest(WorldTestCase):
    """Points [88] to [90]."""

    def steps(self):
        world = linked()
        world.drop("few")
        world.allow(40)
        world.know("bob")
        world.do(program("x = all"))
        world.guard("calm", TRUE)
        world.rule("reach", clauses(REACH[0]))
        world.do(program(BACK))
        return world

    def test_undo(self):
        world = self.steps()
        pages = [world.past(k).page for k in range(len(world) + 1)]
        worlds = [world.past(k) for k in range(len(world) + 1)]
        for k in range(len(world), 0, -1):
            self.assertEqual((len(world), world.page), (k, pages[k]))
            self.assertEqual(world, worlds[k])
            self.assertEqual(World.read(world.page), worlds[k])
            world.undo()
        self.assertEqual(world, World(("ann",)))
        self.assertRefused(world, "NoSteps", {}, world.undo)

    def test_undo_ends_behind_a_state_that_no_guard_is_asked_for(self):
        world = World()
        world.do(program("x = all", known="known"))
        world.guard("g", check("(old <= x)"), (("old", "x"),))
        world.do(program("x |= {[]}", known="known"))
        world.undo()
        self.assertEqual(world["x"], family("all"))

    def test_past_is_independent(self):
        world = self.steps()
        page = world.page
        past = world.past(5)
        past.undo(), past.do(program("q = all"))
        self.assertEqual((len(past), world.page, len(world)), (5, page, 11))
        world.undo()
        self.assertEqual(len(past), 5)
        self.assertEqual(world.past(0), World(("ann",)))
        self.assertEqual(world.past(len(world)).page, world.page)

    def test_long_histories(self):
        world = World(("ann",))
        world.guard("g", check("(x <= all)"))
        for k in range(150):
            world.do(program("x = (all - x)" if k % 3 else "y = {x}"))
        self.assertEqual(len(world), 151)
        last = world.page
        middle = world.past(77)
        while len(world) > 77:
            world.undo()
        self.assertEqual(world, middle)
        self.assertEqual(world.page, "\n".join(last.split("\n")[:len(world.page.split("\n"))]))
        self.assertReadsBack(world)

    def test_values_at(self):
        world = linked()
        world.do(program("x = {}", "a = 'a'"))
        self.assertEqual(list(world.values_at(2)), ["a", "link", "reach", "x"])
        self.assertEqual((world.values_at(2)["a"], world.values_at(5)["x"]), (("mark", "a"), ("set", ())))
        self.assertTrue(same_value(world.values_at(1)["link"], ("set", (("row", (ANN, ("other", 1))),))))
        self.assertRaisesJust("TooMany", FARTHER, world.values_at, FARTHER)
        self.assertEqual(len(world.values_at(200)["link"][1]), 200)
        self.assertRaisesJust("TooMany", 201, world.values_at, 201)
        world.do(program("b = {[u, v] for u in all for v in all}"))
        self.assertRaisesJust("TooMany", 202 ** 2, world.values_at, 201)

    def test_equal(self):
        one, other = linked(), World(("ann",))
        other["link"] = tree("{[ann, u] for u in (all - {ann})}", ("ann",))
        self.assertNotEqual(one, other)
        other.rule("reach", clauses(*REACH))
        other.guard("few", check(FEW, ("ann",)))
        other.guard("calm", check(CALM, ("ann",)))
        self.assertEqual(one, other)
        self.assertNotEqual(one.page, other.page)
        other.allow(59)
        self.assertNotEqual(one, other)
        other.allow(60)
        self.assertEqual(one, other)
        other["x"] = tree("{}")
        self.assertEqual(one, other)
        other["x"] = tree("{u for u in {'a'} if (count(all) == 1" + "0" * 60 + ")}")
        self.assertNotEqual(one, other)
        other["x"] = tree("'a'")
        self.assertNotEqual(one, other)
        other.undo(), other.undo()
        for change in (lambda: other.guard("calm", TRUE), lambda: other.drop("calm"), lambda: other.guard("calm", check(CALM, ("ann",)), (("p", "q"),)),
                       lambda: other.rule("reach", clauses(*REACH, REACH[0])), lambda: other.rule("more", ()), lambda: other.know("bob")):
            change()
            self.assertNotEqual(one, other)
            self.assertFalse(one == other)
            other.undo()
            self.assertEqual(one, other)
        self.assertNotEqual(World(("a", "b")), World(("b", "a")))
        for thing in (None, one.page, 3, one["link"]):
            self.assertFalse(one == thing)

    def test_order_of_rules_and_guards(self):
        one, other = World(), World()
        one.rule("a", ()), one.rule("b", ())
        other.rule("b", ()), other.rule("a", ())
        self.assertNotEqual(one, other)
        one, other = World(), World()
        one.guard("a", TRUE), one.guard("b", TRUE)
        other.guard("b", TRUE), other.guard("a", TRUE)
        self.assertNotEqual(one, other)


class Stop(BaseException):
    pass


class AttemptsTest(WorldTestCase):
    """Point [89]."""

    def test_returned_and_taken_back(self):
        world = linked()
        before = told(world)

        def action(given, trial):
            self.assertIs(given, world)
            given.do(program("x = all"))
            given.undo(), given.do(program("y = all")), given.do(program("z = all"))
            return ("found", given["y"].count(3))
        self.assertEqual(world.attempt(action), ("found", 4))
        self.assertEqual(told(world), before)

    def test_keep(self):
        world = World()

        def action(given, trial):
            given.do(program("x = all", known="known"))
            trial.keep()
            given.do(program("y = all", known="known"))
            trial.keep()
            given.do(program("z = all", known="known"))
        self.assertIsNone(world.attempt(action))
        self.assertEqual(world.page, "known\ndo\n  x = all\ndo\n  y = all")
        world.undo(), world.undo()
        self.assertRefused(world, "NoSteps", {}, world.undo)

    def test_steps_ahead_of_keep_may_be_taken_back(self):
        world = World()

        def action(given, trial):
            given.do(program("x = all", known="known"))
            trial.keep()
            given.undo()
            self.assertRaisesJust("NoSteps", {}, given.undo)
            given.do(program("y = all", known="known"))
        world.attempt(action)
        self.assertEqual(world.page, "known\ndo\n  x = all")

        def other(given, trial):
            given.do(program("y = all", known="known"))
            trial.keep()
            given.undo()
            trial.keep()
        world.attempt(other)
        self.assertEqual(world.page, "known\ndo\n  x = all")

    def test_errors_go_on(self):
        for error in (ValueError, KeyError, Stop, KeyboardInterrupt, SystemExit, GeneratorExit, StopIteration, EverynameError):
            for kept in (False, True):
                world = World()

                def action(given, trial):
                    given.do(program("x = all", known="known"))
                    if kept:
                        trial.keep()
                    given.do(program("y = all", known="known"))
                    raise error()
                with self.assertRaises(error) as caught:
                    world.attempt(action)
                self.assertIs(type(caught.exception), error)
                self.assertEqual(len(world), 1 if kept else 0)
        world = linked()
        self.assertBroken(world, "few", 7, world.attempt, lambda given, trial: given.do(program(BACK)))

    def test_attempts_in_one_another(self):
        def inner(given, trial):
            given.do(program("b = all", known="known"))
            if "inner" in kept:
                trial.keep()
            if "outer" in kept:
                trials[0].keep()
            given.do(program("c = all", known="known"))
            self.assertEqual(len(given), 3)
            if "error" in kept:
                raise Stop()

        def outer(given, trial):
            trials.append(trial)
            given.do(program("a = all", known="known"))
            if "ahead" in kept:
                trial.keep()
            try:
                given.attempt(inner)
            except Stop:
                pass
            self.assertEqual(len(given), 2 if "inner" in kept else 1)
            if "inner" in kept:
                given.undo()
            given.undo()
            self.assertRaisesJust("NoSteps", {}, given.undo)
            given.do(program("d = all", known="known"))
            if "last" in kept:
                trial.keep()
        for many in range(6):
            for kept in itertools.combinations(("ahead", "inner", "outer", "error", "last"), many):
                world, trials = World(), []
                world.attempt(outer)
                rows = ["d"] if "last" in kept else ["a", "b"] if "outer" in kept else ["a"] if "ahead" in kept else []
                self.assertEqual(sorted(world.values_at(0)), rows, kept)
                self.assertEqual(len(world), len(rows))

    def test_no_step_ahead_of_the_innermost_attempt(self):
        world = linked()

        def outer(given, trial):
            self.assertRaisesJust("NoSteps", {}, given.undo)
            given.allow(3)
            given.attempt(lambda inner, more: self.assertRaisesJust("NoSteps", {}, inner.undo))
            given.undo()
            past = given.past(2)
            past.undo(), past.undo()
            self.assertEqual(len(past), 0)
            return given
        self.assertIs(world.attempt(outer), world)
        world.undo()
        self.assertEqual(len(world), 3)

    def test_all_kinds_of_steps_are_taken_back(self):
        world = linked()
        before = told(world)

        def action(given, trial):
            given.drop("few"), given.allow(9), given.know("bob"), given.rule("more", ()), given.guard("x", TRUE)
            given["y"] = tree("all")
        world.attempt(action)
        self.assertEqual(told(world), before)


class PagesTest(WorldTestCase):
    """Points [91] and [92]."""
    page = "\n".join((
        "known ann", "do", "  link = {[ann, u] for u in all if not (u == ann)}", "  while not true:", "    pass", "rule reach", "  " + REACH[0], "  " + REACH[1],
        "rule none", "guard few", "  " + FEW, "guard grow", "  old before link", "  past before reach", "  (old <= link)", "know bob",
        "allow 70", "do", "do", "  x = {bob}", "drop few"))

    def assertBadPage(self, line, page):
        self.assertRaisesJust("BadText", line, World.read, page)

    def test_page(self):
        world = World.read(self.page)
        self.assertEqual(world.page, self.page)
        self.assertEqual((len(world), world.names, world.allowed), (10, ("ann", "bob"), 70))
        self.assertReadsBack(world)
        again = World(("ann",))
        again.do(program(LINK, "while not true:", "  pass"))
        again.rule("reach", clauses(*REACH)), again.rule("none", ())
        again.guard("few", check(FEW, ("ann",))), again.guard("grow", check("(old <= link)"), (("old", "link"), ("past", "reach")))
        again.know("bob"), again.allow(70), again.do(Program(("ann",))), again.do(program("x = {bob}", known="known bob")), again.drop("few")
        self.assertEqual(again.page, self.page)

    def test_first_lines(self):
        for page in ("", "\n", "known ", "known ann,bob", "known all", "known ann, ann", "Known", "do", " known", "known ann ", "known\tann"):
            self.assertBadPage(1, page)
        self.assertBadPage(2, "known\n")
        self.assertBadPage(3, "known\ndo\n")
        self.assertEqual(World.read("known"), World())
        self.assertEqual(World.read("known bob, ann").names, ("bob", "ann"))

    def test_each_line_spoiled(self):
        lines = self.page.split("\n")
        for k, line in enumerate(lines):
            for spoiled in (line + " ", " " + line, line.replace(" ", "  ", 1) if " " in line else line + "x", "", line.upper(), line + "\r", "  ", "    "):
                page = "\n".join(lines[:k] + [spoiled] + lines[k + 1:])
                with self.subTest(k=k, spoiled=spoiled):
                    with self.assertRaises(EverynameError) as caught:
                        World.read(page)
                    self.assertEqual(type(caught.exception).__name__, "BadText")
                    self.assertLessEqual(caught.exception.line, k + 2)

    def test_lines_that_are_not_as_they_should_be(self):
        for line, text in (
                (2, "x"), (2, "  x = all"), (2, "do "), (2, "do x"), (2, "know"), (2, "know "), (2, "know Ann"), (2, "know a b"), (2, "know  a"),
                (2, "allow"), (2, "allow 0"), (2, "allow 1001"), (2, "allow 007"), (2, "allow -1"), (2, "allow x"), (2, "allow 1_0"), (2, "allow " + "1" * 9000),
                (2, "drop"), (2, "drop 1"), (2, "rule"), (2, "rule abcdefghijklm"), (2, "guard"), (2, "undo"), (2, "link = all"),
                (3, "do\nx = all"), (3, "do\n  x = {"), (3, "do\n   x = all"), (3, "do\n    x = all"), (3, "do\n  pass"), (3, "do\n  else:"),
                (4, "do\n  x = all\n  y = (x"), (4, "do\n  while true:"), (4, "do\n  while true:\n  x = all"), (4, "do\n  while true:\nknow bob"),
                (5, "do\n  if true:\n    pass\n    x = all"), (3, "do\n  x = {bob for ann in all}\n  y = {"),
                (3, "know bob\n  x"), (3, "know all\n  x"), (3, "allow 5\n  "), (3, "drop nothere\n  true"),
                (3, "rule r\n  all"), (3, "rule r\n  {u for u in bob}" + "x"), (4, "rule r\n  {u for u in all}\n  {u for u in all} "), (3, "rule r\n   {u for u in all}"),
                (3, "rule r\n  true"), (3, "rule r\n  "), (3, "rule all\n  x"),
                (3, "guard g"), (3, "guard g\nknow bob"), (4, "guard g\n  x before y"), (4, "guard g\n  x before y\nknow bob"), (3, "guard g\n  all"),
                (4, "guard g\n  true\n  true"), (4, "guard g\n  true\n  x before y"), (3, "guard g\n  x before"), (3, "guard g\n  x before y z"),
                (3, "guard g\n  x  before y"), (3, "guard g\n  X before y"), (4, "guard g\n  x before y\n  y after x"), (4, "guard all\n  true\n  true"),
                (3, "guard all"), (4, "guard all\n  if before in"), (2, "foo 5\n  x"), (2, "know 5\n  x"), (2, "do 5\n  x"), (2, "drop\n  x"),
                (5, "guard g\n  x before y\n  true\n  true"), (6, "guard g\n  x before y\n  z before y\n  true\n  (x == y)"), (3, "guard g\n  abcdefghijklm before y")):
            with self.subTest(text):
                self.assertBadPage(line, "known ann\n" + text)
                self.assertBadPage(line + 1, "known ann\nallow 9\n" + text)

    def test_steps_that_are_refused(self):
        for text in ("know all", "know ann", "drop g", "rule all", "rule ann", "rule r\n  {r for r in all}", "rule r\n  {[u] for u in all if (u in r)}",
                     "rule r" + "\n  {u for u in all}" * 5, "guard all\n  true", "guard g\n  not true", "guard g\n  if before x\n  true",
                     "guard g\n  x before ann\n  true", "guard g\n  x before y\n  x before y\n  true", "do\n  while true:\n    pass",
                     "rule r\n  {[] for u in {[]}}\n  {[u] for u in r}", "guard g\n  (count(all) < 1" + "0" * 60 + ")"):
            with self.subTest(text):
                self.assertBadPage(2, "known ann\n" + text)
                self.assertBadPage(4, "known ann\ndo\n  q = all\n" + text)
                self.assertBadPage(2, "known ann\n" + text + "\nknow x y")
        self.assertBadPage(4, "known\ndo\n  x = all\nrule x")
        self.assertBadPage(4, "known\nrule y\n  {u for u in x}\nrule x")
        self.assertBadPage(3, "known\nrule x\ndo\n  x = all")

    def test_known_names_of_the_moment(self):
        world = World.read("known\nrule r\n  {u for u in all}\nknow bob\nrule s\n  {[u, bob] for u in r}\nguard g\n  (bob in r)\ndo\n  x = {bob}")
        self.assertEqual(world["s"].count(4), 5)
        self.assertReadsBack(world)
        # Ahead of the know step, bob is a variable.
        self.assertEqual(World.read("known\nrule s\n  {[u, bob] for u in r}")["s"], family("{}"))
        self.assertBadPage(6, "known\ndo\n  x = all\nknow bob\ndo\n  bob = all")

    def test_more_lines_than_a_rule_may_have(self):
        line = "\n  {u for u in all}"
        self.assertEqual(len(World.read("known\nrule r" + 4 * line)), 1)
        self.assertBadPage(2, "known\nrule r" + 5 * line)
        self.assertBadPage(7, "known\nrule r" + 4 * line + "\n  {u}")

    def test_deep_and_long_lines(self):
        for text in ("(" * 5000, "{" * 5000, "not " * 5000 + "true", "[" * 5000 + "]" * 5000):
            self.assertBadPage(3, "known\nrule r\n  " + text)
            self.assertBadPage(3, "known\nguard g\n  " + text)
            self.assertBadPage(3, "known\ndo\n  x = " + text)

    def test_marks_that_read_like_words_of_pages(self):
        world = World()
        world.guard("before", check("('before' == 'before')"), (("before", "before"),))
        world.do(program("know = {'know', 'do'}", "before = {[]}", known="known"))
        world.rule("rule", clauses("{[guard] for guard in guard}", known=()))
        self.assertReadsBack(world)


if __name__ == "__main__":
    unittest.main()
