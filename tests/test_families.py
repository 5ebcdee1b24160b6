"""Points [57] to [64] for everyname/families.py."""

import itertools
import operator
import unittest

import plain
from everyname.families import Family
from everyname.programs import Program
from everyname.sizes import Size
from everyname.spans import Span
from everyname.tallies import Tally
from everyname.values import members_of
from helpers import FAR, FARTHER, RaisingTestCase, as_shown, family, plain_value, program, tree
from samples import POOL, STEPS, Sampler, mixed

ANN = ("known", "ann")
ONE, TWO = ("other", 1), ("other", 2)
BUT = "{{v for v in all if not (v == u)} for u in all}"
SINGLE = "{{u} for u in all}"
PAIRS = "{{u, v} for u in all for v in all if not (u == v)}"
ROWS = "{[u, v] for u in all for v in all if not (u == v)}"
SIGNS = {"|": operator.or_, "&": operator.and_, "-": operator.sub, "^": operator.xor}
IN_PLACE = {"|": operator.ior, "&": operator.iand, "-": operator.isub, "^": operator.ixor}
ORDERS = {"==": operator.eq, "!=": operator.ne, "<": operator.lt, "<=": operator.le, ">": operator.gt, ">=": operator.ge}
TEXTS = (BUT, SINGLE, PAIRS, ROWS, "{}", "'a'", "[all]", "all", "{all, {}}", "{u for u in all if (count(all) >= 3)}",
         "{u for u in all if (count(all) == 2)}", "{{u, v} for u in all for v in all}")


def set_of(*members):
    return ("set", members)


class FamilyTestCase(RaisingTestCase):
    def assertIs2(self, found, text, known, most=3):
        """Check the values of a family against plain loops."""
        for n in range(most + 1):
            self.assertShown(found(n, 10 ** 6), plain_value(text, known, n))

    def assertUnchanged(self, given, text):
        self.assertEqual(given, family(text, *given.known))


class ExampleTest(FamilyTestCase):
    a, b = family(BUT), family(SINGLE)

    def test_values(self):
        self.assertEqual([self.a(0), self.b(0)], [set_of(), set_of()])
        self.assertEqual([self.a(1), self.b(1)], [set_of(set_of()), set_of(set_of(ONE))])
        self.assertShown(self.a(2), plain.from_shown(self.b(2)))
        self.assertEqual([(self.a & self.b).count(n) for n in (0, 1, 2, 3, 4, FAR)], [0, 0, 2, 0, 0, 0])

    def test_told(self):
        a, b = self.a, self.b
        self.assertEqual([(a & b).sizes(2), str((a & b).span()), a == b, a <= b], [2, "2", False, False])
        self.assertIn(a.apart(b), [(1, set_of(set_of())[1][0], True), (1, set_of(ONE), False)])
        self.assertEqual([a.count(10 ** 300), a.count(10 ** 9)], [10 ** 300, 10 ** 9])
        self.assertEqual([(a | b).sizes(2), (a | b).sizes.settles, (a | b).sizes.last.row], [2, 3, (0, 2)])


class MakingTest(FamilyTestCase):
    """Point [57]."""

    def test_last_state(self):
        given = program("x = {ann}", "while (count(x) < 3):", "  x |= {u for u in all if not (u in x)}", "y = x")
        found = Family(given, tree("{[u] for u in y}"))
        self.assertEqual(found.known, ("ann",))
        self.assertEqual([found.count(n) for n in (0, 1, 2, FARTHER)], [0, 0, 3, FARTHER + 1])

    def test_runs_that_do_not_rest(self):
        self.assertEqual(Family(program("while true:", "  x = {ann}"), ("var", "x")).count(5), 1)
        given = program("while true:", "  x |= {[y]}", "  y = {y}")
        self.assertEqual(Family(given, ("var", "x")).count(FAR), 60)

    def test_of(self):
        found = Family.of(("bob", "ann"), tree("{bob}", ("bob",)))
        self.assertIs(type(found), Family)
        self.assertEqual(found.known, ("bob", "ann"))
        for known in ("ann", ["ann"], ("ann", "ann"), ("all",), (3,), None):
            self.assertRaisesJust("BadProgram", (), Family.of, known, ("all",))

    def test_errors(self):
        given = program("x = all")
        for e in (None, (), "x", ("x",), ["all"], ("true",), ("whole", 3), ("known", "bob"), ("var", "ann"), ("row", ("all",), ["all"]),
                  ("union", ("var", "q"), ("known", "bob"))):
            self.assertRaisesJust("BadProgram", (), Family, given, e)
        self.assertRaisesJust("NoVariable", "p", Family, given, ("union", ("var", "q"), ("row", ("var", "p"), ("var", "x"))))
        self.assertRaisesJust("NoVariable", "x", Family.of, ("ann",), ("var", "x"))

    def test_what_was_passed_does_not_matter_any_more(self):
        given = program("x = all")
        found = Family(given, ("var", "x"))
        given.statements, given.known, given.variables = (), ("bob",), ()
        self.assertEqual((found.known, found.count(4)), (("ann",), 5))
        self.assertIn(ANN, found)


class ValuesTest(FamilyTestCase):
    """Point [58]."""

    def test_like_plain_loops(self):
        for known in ((), ("ann",)):
            for text in POOL:
                self.assertIs2(family(text, *known), text, known)

    def test_most(self):
        found = family("{[u, {v}] for u in all for v in all}", "ann")
        self.assertEqual(len(found(3)[1]), 16)
        self.assertEqual(found(3, 32), found(3, most=32))
        self.assertRaisesJust("TooMany", 32, found, 3, 31)
        self.assertRaisesJust("TooMany", 32, found, 3, most=0)
        self.assertRaisesJust("TooMany", 242, found, 10)
        self.assertRaisesJust("TooMany", 2 * (FARTHER + 1) ** 2, found, FARTHER)
        self.assertEqual(len(family("all")(200)[1]), 200)
        self.assertRaisesJust("TooMany", 201, family("all"), 201)
        for text in ("'a'", "[ann, []]", "ann"):
            self.assertEqual(family(text, "ann")(FARTHER, 0), as_shown(plain_value(text, ("ann",), 0)))

    def test_count(self):
        found = family("{[u, v] for u in all for v in all}", "ann")
        self.assertEqual([found.count(n) for n in (0, 1, FAR, FARTHER)], [1, 4, (FAR + 1) ** 2, (FARTHER + 1) ** 2])
        for text in ("ann", "'a'", "[all, all]"):
            self.assertEqual(family(text, "ann").count(7), 0)

    def test_has(self):
        for known in ((), ("ann",)):
            for text in POOL:
                found = family(text, *known)
                inner = {member for n in range(4) for member in plain.members(plain_value(text, known, n))}
                for n in range(4):
                    members = plain.members(plain_value(text, known, n))
                    for value in sorted(inner, key=repr)[:60]:
                        if self.fits(value, n):
                            self.assertIs(found.has(n, as_shown(value)), value in members, (text, n, value))

    def fits(self, value, n):
        if value[0] == "other":
            return value[1] <= n
        return value[0] in ("known", "mark") or all(self.fits(part, n) for part in value[1])

    def test_has_far_out(self):
        found = family(BUT, "ann") | family(PAIRS, "ann") | family(ROWS, "ann")
        many, more = ("other", FARTHER), ("other", FARTHER - 5)
        for value, holds in ((set_of(many, more), True), (set_of(many), False), (("row", (ANN, many)), True), (set_of(ANN, ONE), True),
                             (("row", (many, many)), False), (ANN, False), (many, False), (set_of(many, more, ONE, TWO), False)):
            self.assertIs(found.has(FARTHER, value), holds, value)
        self.assertTrue(found.has(3, set_of(ANN, ONE, TWO)))
        self.assertTrue(found.has(9, set_of(ANN, *(("other", k) for k in range(1, 9)))))
        self.assertFalse(found.has(9, set_of(*(("other", k) for k in range(1, 9)))))
        self.assertFalse(found.has(10, set_of(ANN, *(("other", k) for k in range(1, 9)))))

    def test_each_member_is_one(self):
        for text in (BUT, "{{w for w in all if not (w in {u, v})} for u in all for v in all}", "{{u, v, w} for u in all for v in all for w in all}"):
            found = family(text)
            for n in (4, 6):
                for value in members_of(found(n)):
                    self.assertTrue(found.has(n, value), value)

    def test_wrong_values(self):
        found = family(SINGLE, "ann")
        for value in (None, "ann", ("known", "bob"), ("known", "all"), ("other", 4), ("other", 0), ("other", True), set_of(ANN, ANN),
                      ("row", (ANN, ("other", 5))), ("row", [ANN]), set_of(set_of(("known", "bob")))):
            self.assertRaisesJust("BadValue", value, found.has, 3, value)
            for n in (-1, True, None, "3", 1.0):
                self.assertRaisesJust("BadValue", n, found.has, n, value)

    def test_wrong_n(self):
        found = family("all", "ann")
        for n in (-1, -FARTHER, True, False, None, "1", 1.0, (1,)):
            for call in (found, found.count):
                self.assertRaisesJust("BadValue", n, call, n)
            self.assertRaisesJust("BadValue", n, found, n, 0)
            self.assertRaisesJust("BadValue", n, found.has, n, ANN)


class SizesTest(FamilyTestCase):
    """Point [59]."""

    def test_sizes(self):
        for text in POOL:
            found = family(text, "ann")
            self.assertIs(type(found.sizes), Tally)
            for n in (0, 1, 2, 3, 9, FAR):
                self.assertEqual(found.sizes(n), found.count(n))
        self.assertEqual(family("'a'").sizes, Tally([(0, 0)]))
        self.assertEqual(family(ROWS).sizes.last, Size([0, 0, 2]))

    def test_span(self):
        for text, span in (("all", "1-"), ("{all}", "0-"), ("'a'", "none"), ("[all]", "none"), (ROWS, "2-"), (PAIRS, "2-"),
                           ("{u for u in all if (count(all) < 7)}", "1-6"),
                           ("{u for u in all if (count(all) == 1" + "0" * 60 + ")}", "1" + "0" * 60)):
            found = family(text)
            self.assertIs(type(found.span()), Span)
            self.assertEqual(str(found.span()), span)
            self.assertIs(bool(found), span != "none")


class OperatorsTest(FamilyTestCase):
    """Points [60] and [62]."""

    def test_like_plain_loops(self):
        for known in ((), ("ann",)):
            for left, right in itertools.product(TEXTS, repeat=2):
                for sign, act in SIGNS.items():
                    a, b = family(left, *known), family(right, *known)
                    found = act(a, b)
                    self.assertIs2(found, f"({left} {sign} {right})", known, 2)
                    self.assertEqual(found, family(f"({left} {sign} {right})", *known))
                    self.assertUnchanged(a, left)
                    self.assertUnchanged(b, right)

    def test_deeper_ones(self):
        for left, right in zip(POOL, POOL[5:] + POOL[:5]):
            for sign, act in SIGNS.items():
                self.assertIs2(act(family(left), family(right)), f"({left} {sign} {right})", ())

    def test_in_place(self):
        for sign, act in IN_PLACE.items():
            for left, right in itertools.product(TEXTS[:6], repeat=2):
                a, b = family(left), family(right)
                name, before, made = a, a | b, a & a
                a = act(a, b)
                self.assertIs(a, name)
                self.assertEqual(name, family(f"({left} {sign} {right})"))
                self.assertUnchanged(before, f"({left} | {right})")
                self.assertUnchanged(made, f"({left} & {left})")
                self.assertUnchanged(b, right)
        a = family(SINGLE)
        a ^= a
        self.assertFalse(a)

    def test_known_names(self):
        a, b = family("{ann, bob}", "ann", "bob"), family("all", "bob", "ann")
        self.assertEqual([(a | b).known, (b | a).known, (b - a).known], [("ann", "bob"), ("bob", "ann"), ("bob", "ann")])
        self.assertTrue(a <= b)
        a |= b
        self.assertEqual(a.known, ("ann", "bob"))
        self.assertTrue(a == b)

    def test_other_stocks(self):
        a, b = family("all", "bob", "ann"), family("all", "cy")
        for act in (*SIGNS.values(), *IN_PLACE.values(), *ORDERS.values()):
            self.assertOther(("ann", "bob"), ("cy",), act, a, b)
            self.assertOther(("cy",), ("ann", "bob"), act, b, a)
            self.assertOther((), ("cy",), act, family("all"), b)
        self.assertOther(("ann", "bob"), ("cy",), a.apart, b)
        self.assertEqual(a, family("all", "bob", "ann"))

    def test_a_known_name_as_a_member(self):
        found = family(SINGLE, "ann", "bob")
        more = "ann" | found
        self.assertEqual(more, family(f"({SINGLE} | {{ann}})", "ann", "bob"))
        self.assertUnchanged(found, SINGLE)
        self.assertEqual(("ann" | family("'a'", "ann"))(3), set_of(ANN))
        for word in ("cy", "all", "", "Ann", None, 3, ("ann",)):
            self.assertRaisesJust("BadValue", word, operator.or_, word, found)

    def test_in(self):
        found = family("({ann, {ann}, []} | {u for u in {'a'} if not (count(all) == 1" + "0" * 50 + ")})", "ann")
        for value, holds in ((ANN, True), (set_of(ANN), True), (("row", ()), True), (("mark", "a"), False), (("mark", "ann"), False),
                             (set_of(), False), (set_of(set_of(ANN)), False)):
            self.assertIs(value in found, holds)
        self.assertTrue(set_of() in family("{{}, {all}}"))
        self.assertFalse(set_of() in family(BUT))
        for value in (None, ONE, set_of(ONE), ("known", "bob"), ("row", (ANN, ("known", "bob"))), "ann", set_of(ANN, ANN), [ANN]):
            self.assertRaisesJust("BadValue", value, found.__contains__, value)


class ComparisonsTest(FamilyTestCase):
    """Point [61]."""

    def test_small(self):
        # Families of these texts differ, if they do, at some n up to 4 already.
        for left, right in itertools.product(TEXTS, repeat=2):
            values = [(plain_value(left, (), n), plain_value(right, (), n)) for n in range(5)]
            equal = all(a == b for a, b in values)
            within, around = (all(plain.members(a) <= plain.members(b) for a, b in rows) for rows in (values, [(b, a) for a, b in values]))
            holds = {"==": equal, "!=": not equal, "<=": within, ">=": around, "<": within and not equal, ">": around and not equal}
            for sign, act in ORDERS.items():
                self.assertIs(act(family(left), family(right)), holds[sign], (left, sign, right))

    def test_a_mark_and_the_empty_family(self):
        a, b = family("'a'"), family("{}")
        self.assertEqual([a < b, b < a, a <= b, b <= a, a == b, a != b, a > b], [True, True, True, True, False, True, True])
        self.assertFalse(a < family("'a'"))

    def test_other_words_for_one_family(self):
        for one, other in ((BUT, "{(all - {u}) for u in all}"), (PAIRS, "{(u | v) for u in {{w} for w in all} for v in {{w} for w in all} if "
                                                                 "not (u == v)}"),
                           ("{u for u in all}", "all"), ("join({all})", "all"), ("{v for u in all for v in all}", "all"),
                           (SINGLE, "{({u, v} & {u, w}) for u in all for v in all for w in all if (not (v == w) and (not (u == v) and not (u == w)))}")):
            a, b = family(one), family(other)
            if one != SINGLE:
                self.assertTrue(a == b and a <= b and a >= b and not a < b and not a != b, one)
            else:
                self.assertEqual((a == b, a > b, str((a ^ b).span())), (False, True, "1-2"))

    def test_one_member_at_one_n_alone(self):
        for n in (0, 1, 17, 10 ** 60):
            more = family(f"(all | {{u for u in {{'a'}} if (count(all) == {n})}})")
            less = family("all")
            self.assertEqual([less == more, less < more, less <= more, more <= less, more > less], [False, True, True, False, True])
            self.assertEqual(less.apart(more), (n, ("mark", "a"), False))
            self.assertEqual(more.apart(less), (n, ("mark", "a"), True))

    def test_other_things(self):
        found = family("all")
        for thing in (None, 3, "all", ("all",), Program(), Size()):
            self.assertFalse(found == thing)
            self.assertTrue(found != thing)


class CoincidencesTest(FamilyTestCase):
    """Sets of a few and of all but a few names, which are equal at single small n."""
    parts = (
        "{u}", "(all - {u})", "{u, v}", "(all - {u, v})", "{{u}, (all - {v})}", "{(all - {u}), (all - {v})}", "{{u}, {v}}", "{[u, v], [v, u]}",
        "{[a, b] for a in (all - {u, v}) for b in (all - {u, v}) if not (a == b)}", "{{a, b} for a in (all - {u, v}) for b in (all - {u, v})}",
        "{{a, u} for a in all}", "{{a, b} for a in (all - {u, v}) for b in {u, v}}", "{(all - {a}) for a in {u, v}}", "{{u, v}, (all - {u, v})}",
        "{(all - {a}) for a in (all - {u, v})}", "{{u}, (all - {u})}", "{((all - {u, v}) - {a}) for a in all}", "((all - {u, v}) | {(all - {u, v})})")

    def test_counts(self):
        for left, right in itertools.product(self.parts, repeat=2):
            x, y = (f"{{{part} for u in all for v in all if not (u == v)}}" for part in (left, right))
            a, b = family(x), family(y)
            both, either, pair = (a & b).sizes, (a | b).sizes, family(f"{{{x}, {y}}}").sizes
            for n in range(6):
                one, other = (plain.members(plain_value(text, (), n)) for text in (x, y))
                self.assertEqual((both(n), either(n), pair(n)), (len(one & other), len(one | other), 1 if one == other else 2), (x, y, n))


class OnlyTest(FamilyTestCase):
    """Point [63]."""

    def test_only(self):
        for text in TEXTS:
            found = family(text, "ann")
            for span in (Span(), Span.single(2), Span([(0, 1), (3, None)]), Span.since(0), Span([(FAR, FARTHER)])):
                only = found.only(span)
                for n in (0, 1, 2, 3, 4):
                    self.assertShown(only(n), plain.from_shown(found(n)) if n in span else plain.EMPTY)
                for n in (FAR - 1, FAR, FARTHER, FARTHER + 1):
                    self.assertEqual(only.count(n), found.count(n) if n in span else 0)
            self.assertUnchanged(found, text)
        span = Span.since(1)
        only = family("all").only(span)
        span &= Span()
        self.assertEqual(only.count(1), 1)
        self.assertEqual(family("'a'").only(Span.since(2))(1), set_of())

    def test_at_known(self):
        for known in ((), ("bob",)):
            for text in POOL + ("'a'", "[all, {}]", "{}", "{u for u in all if (count(all) >= 3)}"):
                found = family(text, *known)
                self.assertIs2(found.at_known("ann"), text, known + ("ann",))
                self.assertEqual(found.at_known("ann"), family(text, *known, "ann"))
                self.assertEqual(found.at_known("ann").known, known + ("ann",))
                self.assertUnchanged(found, text)

    def test_at_known_that_does_not_stand_in_the_text(self):
        found = family("{u for u in all if not (u == ann)}", "ann").at_known("bob")
        self.assertEqual(found, family("(all - {ann})", "ann", "bob"))
        only = family(BUT).only(Span.single(3)).at_known("ann")
        self.assertEqual(str(only.span()), "2")
        self.assertEqual(only, family(BUT, "ann").only(Span.single(2)))
        only = family("all").only(Span([(0, 0), (FAR, None)])).at_known("ann")
        self.assertEqual(str(only.span()), str(Span.since(FAR - 1)))

    def test_wrong_words(self):
        found = family("all", "ann")
        for word in ("ann", "all", "if", "", "Bob", "a1", "abcdefghijklm", None, 3, ("bob",)):
            self.assertRaisesJust("BadProgram", (), found.at_known, word)


class ApartTest(FamilyTestCase):
    """Point [64]."""

    def test_like_plain_loops(self):
        for known in ((), ("ann",)):
            for left, right in itertools.product(TEXTS, repeat=2):
                found = family(left, *known).apart(family(right, *known))
                values = [(plain_value(left, known, n), plain_value(right, known, n)) for n in range(5)]
                differing = [n for n, (a, b) in enumerate(values) if a != b]
                if not differing:
                    self.assertIsNone(found)
                    continue
                n, value, first = found
                self.assertEqual(n, differing[0])
                a, b = (plain.members(each) for each in values[n])
                if a == b:
                    self.assertEqual((value, first), (None, None))
                else:
                    self.assertIs(type(first), bool)
                    self.assertIn(plain.from_shown(value), a - b if first else b - a)

    def test_most(self):
        a, b = family("{all}"), family("{}")
        self.assertEqual(a.apart(b), (0, set_of(), True))
        a, b = a.only(Span.since(300)), b
        self.assertRaisesJust("TooMany", 300, a.apart, b)
        self.assertEqual(len(a.apart(b, 300)[1][1]), 300)
        self.assertRaisesJust("TooMany", 300, b.apart, a, most=299)
        big = family("{all, {[u, v] for u in all for v in all}}").only(Span.since(FAR))
        self.assertRaisesJust("TooMany", FAR, big.apart, b)
        self.assertRaisesJust("TooMany", FAR, (big ^ family("{{[u] for u in all}}").only(Span.single(FAR))).apart, big)
        whole = family("{all}")
        self.assertEqual(len(whole.only(Span.since(200)).apart(family("{}"))[1][1]), 200)
        self.assertRaisesJust("TooMany", 201, whole.only(Span.since(201)).apart, family("{}"))
        # The smaller one of what each of the two lacks is found.
        small = family("{'a'}").only(Span.single(FAR))
        self.assertEqual(big.apart(small), (FAR, ("mark", "a"), False))
        self.assertEqual(small.apart(big), (FAR, ("mark", "a"), True))
        self.assertEqual(family("'a'").apart(family("'b'"), 0), (0, None, None))

    def test_random_families(self):
        for seed in range(60):
            given = Program.read(mixed(seed))
            a, b = Family(given, ("var", "x")), Family(given, ("var", "y"))
            found = a.apart(b, 10 ** 6)
            for n in range(4):
                equal = plain.from_shown(a(n, 10 ** 6)) == plain.from_shown(b(n, 10 ** 6))
                if found is None or n < found[0]:
                    self.assertTrue(equal)
                elif n == found[0]:
                    self.assertFalse(equal)
            self.assertIs(found is None, a == b)

    def test_steps_like_plain_loops(self):
        for number, text in enumerate(STEPS):
            rows = [f"x = {POOL[number % len(POOL)]}", f"y = {POOL[(3 * number + 1) % len(POOL)]}"]
            found = Family(program(*rows), tree(text))
            for n in range(4):
                loops = plain.PlainRun(("ann",), program(*rows).statements, "xy", n)
                self.assertShown(found(n, 10 ** 6), loops.plain.value(tree(text), loops.state))

    def test_random_expressions(self):
        for seed in range(100):
            sampler = Sampler(seed, known=("ann",), states=())
            sampler.leaf = lambda bound, s=sampler: ("var", s.random.choice(bound)) if bound else s.pick(("all",), ANN, ("set",))
            e = sampler.e(3)
            found = Family.of(("ann",), e)
            for n in range(4):
                self.assertShown(found(n, 10 ** 9), plain.Plain(("ann",), n).value(e, {}))


if __name__ == "__main__":
    unittest.main()
