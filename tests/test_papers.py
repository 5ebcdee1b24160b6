"""Points [93] to [97] for everyname/papers.py."""

import itertools
import unittest

import plain
from everyname.papers import follows, leaves, turn, why
from everyname.spans import Span
from everyname.world import World
from helpers import FAR, FARTHER, RaisingTestCase, as_shown, family, program, tree
from test_world import BACK, REACH, clauses, linked

ANN, ONE, TWO = ("known", "ann"), ("other", 1), ("other", 2)
RULES = {
    "reach": REACH,
    "flat": ("{[u, v] for u in all for v in all if not (u == v)}", "{u for [u, v] in flat}"),
    "none": (),
    "deep": ("{[] for u in all}", "{[u] for u in deep if (u in {[], [[]], [[[]]]})}", "{[u, v] for u in deep for v in all if (u == [[[]]])}"),
    "three": ("{[u, u] for u in all}", "{[u, v] for [u, v] in link}",
              "{[u, v, w] for [u, x] in three for [v, y] in three for [w, z] in three if ((x == v) and (y == w))}"),
    "marks": ("{'a' for u in all if (count(all) >= 3)}", "{'b' for u in marks}", "{u for u in {'b', 'c'} for v in marks if (v == 'b')}"),
    "sorts": ("{[u, {}] for u in {'a'} if (count({v for v in all if not (v in join({w for [w] in {[all]}}))}) == 0)}",),
    "other": ("{u for [v, u] in link}", "{[u, w] for u in other for w in other for [x, y] in link if ((x == u) and ((w in all) and not (w == y)))}"),
}


def row(*parts):
    return ("row", parts)


def world_of(name, *rows):
    world = World(("ann",))
    world.do(program("link = {[ann, u] for u in all if not (u == ann)}", *rows))
    world.rule(name, clauses(*RULES[name]))
    return world


class PlainRule:
    """A rule at one n by plain loops."""

    def __init__(self, world, name, n):
        self.n, self.name = n, name
        self.loops = plain.Plain(("ann",), n)
        self.clauses = clauses(*RULES[name])
        self.values = {other: plain.from_shown(value) for other, value in world.values_at(n).items() if other != name}
        self.rounds = [frozenset()]
        while True:
            wider = self.rounds[-1]
            for clause in self.clauses:
                wider = wider | plain.members(self.loops.value(clause, {**self.values, name: ("set", self.rounds[-1])}))
            if wider == self.rounds[-1]:
                break
            self.rounds.append(wider)

    def turn(self, value):
        return next((k for k, found in enumerate(self.rounds) if value in found), None)

    def is_right(self, step, given):
        if not isinstance(step, tuple) or len(step) != 3 or type(step[1]) is not int or not 0 <= step[1] < len(self.clauses):
            return False
        value, index, members = step
        _, e, sources, test = self.clauses[index]
        if not isinstance(members, tuple) or len(members) != len(sources):
            return False
        values = dict(self.values)
        for (pattern, source), member in zip(sources, members):
            member = plain.from_shown(member)
            found = given if source == ("var", self.name) else plain.members(self.loops.value(source, values))
            if member not in found:
                return False
            bound = list(self.loops.bindings(pattern, ("set", frozenset((member,))), values))
            if not bound:
                return False
            values = bound[0]
        return self.loops.holds(test, values) and self.loops.value(e, values) == plain.from_shown(value)

    def follows(self, value, paper):
        given = set()
        for k, step in enumerate(paper):
            if not self.is_right(step, given):
                return k
            given.add(plain.from_shown(step[0]))
        return -1 if paper and plain.from_shown(paper[-1][0]) == value else len(paper)


class PapersTestCase(RaisingTestCase):
    def assertPaper(self, world, name, n, value, paper):
        """Check a paper for a shown value by what the program says, and that its values differ."""
        self.assertIs(type(paper), tuple)
        self.assertEqual(follows(world, name, n, value, paper), -1)
        texts = [plain.from_shown(step[0]) for step in paper]
        self.assertEqual(len(set(texts)), len(texts))

    def candidates(self, rule):
        """Members of the rule's family, and others."""
        names = rule.loops.names
        more = [("row", pair) for pair in itertools.product(names, repeat=2)] + names + [("mark", "a"), ("mark", "z"), ("row", ())]
        return sorted(rule.rounds[-1], key=repr)[:25] + more[:20]


class ExampleTest(PapersTestCase):
    r1, r3, r2 = row(ANN, ONE), row(ONE, ANN), row(ANN, ANN)

    def setUp(self):
        self.world = linked()
        self.world.drop("few"), self.world.drop("calm")
        self.world.do(program(BACK))

    def test_why(self):
        paper = why(self.world, "reach", 2, self.r2)
        self.assertPaper(self.world, "reach", 2, self.r2, paper)
        self.assertIn(paper, [((row(ANN, k), 0, (row(ANN, k),)), (self.r2, 1, (row(ANN, k), row(k, ANN)))) for k in (ONE, TWO)])
        self.assertEqual([turn(self.world, "reach", 2, value) for value in (self.r2, self.r1)], [2, 1])

    def test_follows(self):
        given = ((self.r1, 0, (self.r1,)), (self.r2, 1, (self.r1, self.r3)))
        self.assertEqual(follows(self.world, "reach", 2, self.r2, given), -1)
        self.assertEqual(follows(self.world, "reach", 2, self.r2, (given[0], (self.r2, 1, (self.r1, row(TWO, ANN))))), 1)

    def test_leaves(self):
        self.assertIsNone(leaves(self.world, "reach", family("{[u, v] for u in all for v in all}", "ann")))
        n, (value, clause, members) = leaves(self.world, "reach", family("{}", "ann"))
        self.assertEqual((n, clause, members), (1, 0, (value,)))
        self.assertIn(value, (self.r1, self.r3))


class WhyTest(PapersTestCase):
    """Points [94] and [96]."""

    def test_like_plain_loops(self):
        for name in RULES:
            for rows in ((), (BACK,), (BACK, "link -= {[ann, u] for u in all if (count(all) == 3)}")):
                world = world_of(name, *rows)
                for n in range(4):
                    rule = PlainRule(world, name, n)
                    for value in self.candidates(rule):
                        shown = as_shown(value)
                        self.assertEqual(turn(world, name, n, shown), rule.turn(value), (name, n, value))
                        paper = why(world, name, n, shown)
                        self.assertIs(paper is None, rule.turn(value) is None)
                        if paper is not None:
                            self.assertPaper(world, name, n, shown, paper)
                            self.assertEqual(rule.follows(value, paper), -1)
                            given = set()
                            for step in paper:
                                self.assertTrue(rule.is_right(step, given))
                                given.add(plain.from_shown(step[0]))

    def test_far_out(self):
        many, more = ("other", FARTHER), ("other", FARTHER - 1)
        for name, rows, values in (("reach", (BACK,), (row(many, more), row(many, many), row(ANN, many), row(ANN, ANN))),
                                   ("three", (), (row(ANN, many, many), row(many, many, many), row(ANN, ANN, more), row(ANN, more))),
                                   ("flat", (), (many, row(more, many), ANN)), ("deep", (), (row(row(row(row())), many),)),
                                   ("other", (), (many, row(ANN, many))), ("marks", (), (("mark", "a"), ("mark", "c")))):
            world = world_of(name, *rows)
            for value in values:
                found = why(world, name, FARTHER, value)
                if world[name].has(FARTHER, value):
                    self.assertPaper(world, name, FARTHER, value, found)
                    self.assertIs(type(turn(world, name, FARTHER, value)), int)
                else:
                    self.assertIsNone(found)
                    self.assertIsNone(turn(world, name, FARTHER, value))
        world = world_of("reach")
        self.assertIsNone(why(world, "reach", FARTHER, row(many, ANN)))
        self.assertEqual(why(world, "reach", FARTHER, row(ANN, many)), ((row(ANN, many), 0, (row(ANN, many),)),))

    def test_many_rounds(self):
        world = World()
        world.allow(200)
        world.do(program("y = []", "while (count(x) < 150):", "  x |= {y}", "  y = [y]", "  end = y", known="known"))
        world.rule("r", clauses("{y for y in {[]}}", "{[u] for u in r if (not (u == end) and not (u == 'a'))}",
                                "{'a' for u in r if (u == end)}", known=()))
        value = ("row", ())
        for _ in range(100):
            value = row(value)
        self.assertEqual(turn(world, "r", FARTHER, value), 101)
        paper = why(world, "r", FARTHER, value)
        self.assertEqual(len(paper), 101)
        self.assertPaper(world, "r", FARTHER, value, paper)

    def test_others_that_are_left(self):
        # At n = 2, there is just one other besides the one in the value.
        world = World()
        world.rule("r", clauses("{u for u in all for v in all if not (u == v)}", "{[u, v, w] for u in all for v in all for w in all if "
                                "((not (u == v) and not (v == w)) and not (u == w))}", known=()))
        for one, other in ((ONE, TWO), (TWO, ONE)):
            self.assertEqual(why(world, "r", 2, one), ((one, 0, (one, other)),))
        three = row(*(("other", k) for k in (3, 1, 2)))
        self.assertPaper(world, "r", 3, three, why(world, "r", 3, three))
        self.assertIsNone(why(world, "r", 1, ONE))

    def test_errors(self):
        world = linked()
        for name in ("link", "few", "ann", "nothere", "all", "", None, 3):
            for call in (lambda *given: follows(*given, ()), why, turn, lambda *given: follows(*given, None)):
                self.assertRaisesJust("BadName", name, call, world, name, 2, None)
            self.assertRaisesJust("BadName", name, leaves, world, name, family("all", "cy"))
        for value in (None, "ann", ("known", "bob"), ("other", 3), ("other", 0), row(ANN, ("other", 5)), ("set", (ANN, ANN)), [ANN], ("row", [ANN])):
            for call in (why, turn, lambda *given: follows(*given, ()), lambda *given: follows(*given, None)):
                self.assertRaisesJust("BadValue", value, call, world, "reach", 2, value)
        self.assertOther(("ann",), ("bob",), leaves, world, "reach", family("all", "bob"))
        self.assertOther(("ann",), (), leaves, world, "reach", family("all"))

    def test_known_names_in_another_order(self):
        world = World(("bob", "ann"))
        world.rule("r", clauses("{u for u in all}", known=()))
        self.assertIsNone(leaves(world, "r", family("all", "ann", "bob")))
        self.assertEqual(why(world, "r", 0, ANN), ((ANN, 0, (ANN,)),))


class FollowsTest(PapersTestCase):
    """Points [93] and [95]."""

    def changed(self, step):
        """A step with each of its parts changed in turn."""
        value, clause, members = step
        yield from ((value, other, members) for other in (-1, 0, 1, 2, 3, 10 ** 30, True, False, None, "0") if other is not clause)
        for other in (ANN, ONE, row(), row(ANN, ANN), row(ONE, ONE), row(ONE, TWO), ("other", 9), ("known", "cy"), None, ("set", ())):
            yield (other, clause, members)
            for k in range(len(members)):
                yield (value, clause, members[:k] + (other,) + members[k + 1:])
        yield from ((value, clause, other) for other in (members + (ANN,), members[:-1], (), None, list(members), members[::-1]))
        yield from ([value, clause, members], (value, clause), (value, clause, members, ()), None, value)

    def test_each_step_changed(self):
        for name in RULES:
            world = world_of(name, BACK)
            for n in (2, 3):
                rule = PlainRule(world, name, n)
                for value in sorted(rule.rounds[-1], key=repr)[::7]:
                    shown = as_shown(value)
                    paper = why(world, name, n, shown)
                    for k, step in enumerate(paper):
                        for other in self.changed(step):
                            spoiled = paper[:k] + (other,) + paper[k + 1:]
                            self.assertEqual(follows(world, name, n, shown, spoiled), self.expected(rule, n, value, spoiled), spoiled)

    def expected(self, rule, n, value, paper):
        """What follows returns, by plain loops; a value that is none of stock n makes a step wrong."""
        def fits(shown):
            if not isinstance(shown, tuple) or len(shown) != 2:
                return False
            kind, inner = shown
            if kind in ("row", "set"):
                return isinstance(inner, tuple) and all(map(fits, inner))
            return inner == "ann" or kind == "mark" if isinstance(inner, str) else isinstance(inner, int) and inner <= n
        for k, step in enumerate(paper):
            if isinstance(step, tuple) and len(step) == 3:
                parts = (step[0],) + (step[2] if isinstance(step[2], tuple) else ())
                if not all(map(fits, parts)):
                    return min(k, rule.follows(value, paper[:k]) if rule.follows(value, paper[:k]) >= 0 else k)
        return rule.follows(value, paper)

    def test_papers_that_are_none(self):
        world = linked()
        value = row(ANN, ONE)
        for paper in (None, [], [(value, 0, (value,))], "paper", 3, {}):
            self.assertEqual(follows(world, "reach", 2, value, paper), 0)
        self.assertEqual(follows(world, "reach", 2, value, ()), 0)
        step = (value, 0, (value,))
        self.assertEqual(follows(world, "reach", 2, value, (step,)), -1)
        self.assertEqual(follows(world, "reach", 2, value, (step, step)), -1)
        self.assertEqual(follows(world, "reach", 2, row(ANN, TWO), (step,)), 1)
        self.assertEqual(follows(world, "reach", 2, value, (step, (row(ANN, TWO), 0, (row(ANN, TWO),)))), 2)
        self.assertEqual(follows(world, "reach", 2, value, ((row(ONE, ANN), 0, (row(ONE, ANN),)), step)), 0)

    def test_given_values_alone_are_members_of_the_own_name(self):
        world = linked()
        world.drop("few"), world.drop("calm")
        world.do(program(BACK))
        last = (row(ANN, ANN), 1, (row(ANN, ONE), row(ONE, ANN)))
        self.assertEqual(follows(world, "reach", 2, row(ANN, ANN), (last,)), 0)
        first = (row(ANN, ONE), 0, (row(ANN, ONE),))
        self.assertEqual(follows(world, "reach", 2, row(ANN, ANN), (last, first)), 0)
        self.assertEqual(follows(world, "reach", 2, row(ANN, ANN), (first, last)), -1)

    def test_members_that_the_pattern_does_not_fit(self):
        world = world_of("flat")
        steps = ((row(ANN, ONE), 0, (ANN, ONE)), (ANN, 1, (row(ANN, ONE),)))
        self.assertEqual(follows(world, "flat", 2, ANN, steps), -1)
        for member in (ANN, row(ANN, ONE)):
            self.assertEqual(follows(world, "flat", 2, ANN, steps + ((member, 1, (ANN,)),)), 2)

    def test_long_papers(self):
        world = world_of("flat")
        steps = tuple((row(ANN, ("other", k)), 0, (ANN, ("other", k))) for k in range(1, 400))
        self.assertEqual(follows(world, "flat", FAR, ANN, steps + ((ANN, 1, (row(ANN, ("other", 7)),)),)), -1)
        self.assertEqual(follows(world, "flat", FAR, ANN, steps + ((ANN, 1, (row(ANN, ("other", 400)),)),)), 399)


class LeavesTest(PapersTestCase):
    """Point [97]."""

    def test_like_plain_loops(self):
        texts = ("{}", "all", "{[u, v] for u in all for v in all}", "({[u, v] for u in all for v in all} | all)", "link", "{'a', 'b'}", "{'a', 'b', 'c'}",
                 "{[u, v] for u in all for v in all if (count(all) >= 3)}", "'a'", "({[u, v] for u in all for v in all} - {[u, u] for u in all})",
                 "({[u, u] for u in all} | ({[u, v, w] for u in all for v in all for w in all} | {[u, v] for u in all for v in all}))")
        for name in RULES:
            for rows in ((), (BACK,)):
                world = world_of(name, *rows)
                rules = [PlainRule(world, name, n) for n in range(4)]
                for text in texts:
                    given = family(text, "ann") if "link" not in text else world["link"]
                    found = leaves(world, name, given)
                    for n, rule in enumerate(rules):
                        own = plain.from_shown(given(n, 10 ** 6))
                        closed = all(plain.members(rule.loops.value(clause, {**rule.values, name: own})) <= plain.members(own)
                                     for clause in rule.clauses)
                        if found is None or n < found[0]:
                            self.assertTrue(closed, (name, text, n))
                        elif n == found[0]:
                            self.assertFalse(closed)
                            self.assertIs(type(found[1]), tuple)
                            self.assertTrue(rule.is_right(found[1], plain.members(own)))
                            self.assertNotIn(plain.from_shown(found[1][0]), plain.members(own))
                    if found is None:
                        self.assertLessEqual(world[name], given)

    def test_far_out(self):
        world = world_of("reach", BACK)
        given = family("{[u, v] for u in all for v in all}", "ann")
        n, (value, clause, members) = leaves(world, "reach", given.only(~Span.single(FAR)))
        self.assertEqual((n, clause, members), (FAR, 0, (value,)))
        self.assertTrue(world["reach"].has(FAR, value))
        less = given - family("{[u, u] for u in {ann} if (count(all) == 1" + "0" * 60 + ")}", "ann")
        n, (value, clause, members) = leaves(world, "reach", less)
        self.assertEqual((n, value, clause), (FAR - 1, row(ANN, ANN), 1))
        self.assertEqual((members[0][1][0], members[1][1][1], members[0][1][1]), (ANN, ANN, members[1][1][0]))

    def test_what_is_passed_stays(self):
        world, given = linked(), family("{}", "ann")
        page = world.page
        leaves(world, "reach", given), why(world, "reach", 2, row(ANN, ONE)), turn(world, "reach", 3, ANN)
        self.assertEqual((world.page, given), (page, family("{}", "ann")))


if __name__ == "__main__":
    unittest.main()
