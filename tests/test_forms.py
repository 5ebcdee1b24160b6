"""Points [65] to [72] for everyname/forms.py."""

import itertools
import unittest

import plain
from everyname.families import Family
from everyname.forms import Form, form
from everyname.groups import generated
from everyname.programs import Program
from everyname.sizes import Size
from everyname.spans import Span
from helpers import FAR, FARTHER, RaisingTestCase, family, filled, read, sets_in
from samples import POOL, mixed

BUT = "{{v for v in all if not (v == u)} for u in all}"
SETS_OF_TWO = ("set", ((2, ("set", ((0, ("slot", 0)), (0, ("slot", 1))))),))
ALL_BUT_ONE = ("set", ((1, ("set", ((1, ("slot", 1)),))),))
# Own slots that may be exchanged: all, none, in a ring, in pairs.
ROTATED = "{{[u, v], [v, w], [w, u]} for u in all for v in all for w in all if ((not (u == v) and not (v == w)) and not (u == w))}"
TWO_PAIRS = ("{{{u, v}, {w, x}} for [u, v] in p for [w, x] in p if (count({u, v, w, x}) == 4)}")


def same(pattern, f, g, n):
    return read(pattern, f, n) == read(pattern, g, n)


class FormTestCase(RaisingTestCase):
    def assertNormal(self, pattern, n):
        """Check that a pattern is normal, as far as n tells."""
        for many, items in sets_in(pattern):
            slots = tuple(range(1, many + 1))
            for k, p in items:
                full = filled(slots, k, n)[0]
                for i in range(many, many + k):
                    moved = full[:i] + (n,) + full[i + 1:]
                    self.assertFalse(n not in full and same(p, full, moved, n), (pattern, p, i))
            readings = [{read(p, full, n) for full in filled(slots, k, n)} for k, p in items]
            for one, other in itertools.combinations(readings, 2):
                self.assertFalse(one & other, pattern)

    def assertGroups(self, found, n):
        self.assertEqual(len(found.groups), len(found.pattern[1]) if found.pattern[0] == "set" else 0)
        if found.pattern[0] != "set":
            return
        for (k, p), group in zip(found.pattern[1], found.groups):
            full = tuple(range(2, k + 2))
            kept = [r for r in itertools.permutations(range(k)) if same(p, full, tuple(full[i] for i in r), n)]
            self.assertEqual(group, tuple(kept), p)
            self.assertEqual(generated(k, group), group)

    def assertForm(self, given, most=4):
        """Check all that a form tells, by plain loops at n that are just great enough for its pattern."""
        found = form(given)
        deepest = max([many + max([k for k, _ in items], default=0) for many, items in sets_in(found.pattern)], default=0)
        if deepest <= 3:
            self.assertNormal(found.pattern, 6)
            self.assertGroups(found, 6)
        for n in range(most + 1):
            value = plain.from_shown(given(n, 10 ** 6))
            reading = read(found.pattern, (), n)
            self.assertShown(found(n, 10 ** 6), reading)
            if n >= found.start:
                self.assertEqual(reading, value)
            if n == found.start - 1:
                self.assertNotEqual(reading, value)
        for n in (found.start + 12, FARTHER):
            self.assertEqual(found.size(n), given.count(n))
        return found


class ExamplesTest(FormTestCase):
    def test_sets_of_up_to_two_names(self):
        found = self.assertForm(family("{{u, v} for u in all for v in all}", "ann"))
        self.assertEqual((found.sorts, found.start, found.depends, len(found)), (((0, 1), (1, 1), (1, 1), (2, 2)), 0, (), 4))
        n = Size([0, 1])
        self.assertEqual(found.size, 1 + n + n + n * (n - 1) // 2)
        self.assertIn(((0, 1), (1, 0)), found.groups)

    def test_a_variable_that_is_not_needed(self):
        found = self.assertForm(family("{{w for w in all if not (w == u)} for u in all for v in all if not (u == v)}"))
        self.assertEqual((found.pattern, found.start), (ALL_BUT_ONE, 2))
        self.assertEqual([found(0), found(1)], [("set", ()), ("set", (("set", ()),))])

    def test_start_where_an_n_below_has_the_reading_too(self):
        found = self.assertForm(family("{u for u in all if (count(all) >= 5)}"), 6)
        self.assertEqual((found.pattern, found.start), (("set", ((1, ("slot", 0)),)), 5))

    def test_patterns_of_the_document(self):
        self.assertEqual(form(family("{{u, v} for u in all for v in all if not (u == v)}")).pattern[1][0][0], 2)
        self.assertIn(form(family("{{u, v} for u in all for v in all if not (u == v)}")).pattern, [
            SETS_OF_TWO, ("set", ((2, ("set", ((0, ("slot", 1)), (0, ("slot", 0))))),))])
        self.assertEqual(form(family(BUT)).pattern, ALL_BUT_ONE)

    def test_example_of_the_interface(self):
        found = form(family(BUT))
        self.assertEqual([found.start, found.sorts, found.groups, found.size.row], [0, ((1, 1),), (((0,),),), (0, 1)])


class PatternsTest(FormTestCase):
    def test_pool(self):
        for known in ((), ("ann",), ("bob", "ann")):
            for text in POOL:
                found = self.assertForm(family(text, *known), 4 if len(known) < 2 else 3)
                self.assertIs(type(found), Form)
                self.assertEqual(found.known, tuple(sorted(known)))

    def test_random_families(self):
        for seed in range(150):
            given = Program.read(mixed(seed))
            for name in given.variables:
                found = Family(given, ("var", name))
                if found.count(3) < 80 and found.count(20) < 10 ** 7:
                    self.assertForm(found, 3)

    def test_names_marks_and_rows(self):
        for text, pattern in (("ann", ("known", "ann")), ("'ann'", ("mark", "ann")), ("[]", ("row", ())), ("{}", ("set", ())),
                              ("[ann, {}]", ("row", (("known", "ann"), ("set", ())))),
                              ("[(all - {ann}), 'a']", ("row", (("set", ((1, ("slot", 0)),)), ("mark", "a"))))):
            found = self.assertForm(family(text, "ann"))
            self.assertEqual((found.pattern, found.groups, found.sorts, found.start, found.size, len(found)),
                             (pattern, (), (), 0, Size(), 0))

    def test_deep_values(self):
        for rows, depends in ((("y = {y, ann}",), ("ann",)), (("y = [y, all]",), ()), (("y = {y}",), ())):
            given = Program.read("\n".join(("known ann", "while (count(x) < 55):", "  x |= {z}", "  z = {z}") + tuple("  " + row for row in rows)))
            found = form(Family(given, ("var", "y")))
            self.assertEqual((found.start, found.depends), (0, depends))
            self.assertEqual(found.family(), Family(given, ("var", "y")))

    def test_own_slots_that_may_be_exchanged(self):
        found = self.assertForm(family(ROTATED), 5)
        self.assertEqual(found.sorts, ((3, 3),))
        self.assertEqual(found.groups, (((0, 1, 2), (1, 2, 0), (2, 0, 1)),))
        given = Program.read("known\np = {[u, v] for u in all for v in all if not (u == v)}\nq = " + TWO_PAIRS)
        found = self.assertForm(Family(given, ("var", "q")), 5)
        self.assertEqual(found.sorts, ((4, 8),))
        self.assertEqual(len(generated(4, found.groups[0])), 8)
        self.assertEqual([found.size(n) for n in range(6)], [0, 0, 0, 0, 3, 15])

    def test_sorts_ascend(self):
        found = self.assertForm(family("({{u, v} for u in all for v in all} | {[u, v] for u in all for v in all})", "ann"))
        self.assertEqual(found.sorts, ((0, 1), (0, 1), (1, 1), (1, 1), (1, 1), (1, 1), (1, 1), (2, 1), (2, 2)))

    def test_sets_in_sets_around_others(self):
        # The second slot of the outer item is around the inner set, too.
        found = self.assertForm(family("{[{w for w in all if not (w == u)}, v] for u in all for v in all if not (u == v)}"))
        self.assertEqual([k for k, _ in found.pattern[1]], [2])


class StartTest(FormTestCase):
    def test_far_out(self):
        for text, start in (("{u for u in all if (count(all) >= 1" + "0" * 60 + ")}", FAR),
                            ("{u for u in all if not (count(all) == 1" + "0" * 60 + ")}", FAR + 1),
                            ("(all | {u for u in {'a'} if (count(all) <= 12)})", 13)):
            found = form(family(text))
            self.assertEqual((found.pattern, found.start), (("set", ((1, ("slot", 0)),)), start))

    def test_parts_of_families(self):
        given = family(BUT)
        for span, start in ((Span.since(0), 0), (Span.since(1), 0), (Span.since(2), 2), (Span.since(FAR), FAR),
                            (~Span.single(FAR), FAR + 1), (~Span([(3, 4), (7, 7)]), 8)):
            self.assertEqual(form(given.only(span)).start, start)
        self.assertEqual(form(given.only(Span.until(FAR))).start, FAR + 1)
        self.assertEqual(form(given.only(Span.until(FAR))).pattern, ("set", ()))


class DependsTest(FormTestCase):
    def test_depends(self):
        for text, depends in (("all", ()), ("ann", ("ann",)), ("(all - {bob})", ("bob",)), ("{ann, bob}", ("ann", "bob")), ("'ann'", ()),
                              ("{{ann, u} for u in all}", ("ann",)), ("{[u, v] for u in all for v in all}", ()), ("{all, []}", ()),
                              ("{{u, v} for u in all for v in all if not (u == v)}", ()), ("[all, [bob]]", ("bob",)),
                              ("{u for u in all if ((u == ann) or (u == bob))}", ("ann", "bob")),
                              ("{(all - {u}) for u in all if not (u == bob)}", ("bob",)),
                              ("{u for u in {ann} if (count(all) < 9)}", ()), ("{{{u, v}, {w for w in all}} for u in all for v in all}", ()),
                              ("{{u, v} for u in all for v in {ann, bob}}", ("ann", "bob")),
                              ("{(all - {ann}), (all - {bob})}", ("ann", "bob")), ("({ann} | all)", ())):
            for known in (("ann", "bob"), ("bob", "ann")):
                self.assertEqual(form(family(text, *known)).depends, depends, text)
        self.assertEqual(form(family("{zed, ann, (all - {bob})}", "zed", "bob", "ann")).depends, ("ann", "bob", "zed"))

    def test_pool_depends_on_no_known_name(self):
        for text in POOL:
            self.assertEqual(form(family(text, "ann", "bob")).depends, (), text)
            self.assertEqual(form(family(text).at_known("ann")).depends, ())


class AskedTest(FormTestCase):
    """Points [71] and [72]."""

    def test_call(self):
        found = form(family("{u for u in all if (count(all) >= 5)}"))
        self.assertEqual(found(2), ("set", (("other", 1), ("other", 2))))
        self.assertRaisesJust("TooMany", 3, found, 3, 2)
        self.assertRaisesJust("TooMany", 201, found, 201)
        self.assertRaisesJust("TooMany", FARTHER, found, FARTHER, most=5)
        for n in (-1, True, None, "3", -FARTHER):
            self.assertRaisesJust("BadValue", n, found, n)
            self.assertRaisesJust("BadValue", n, found, n, 0)

    def test_family(self):
        for text in POOL:
            given = family(text, "bob", "ann")
            found = form(given).family()
            self.assertEqual(found.known, ("ann", "bob"))
            self.assertEqual(found, given)
        given = family(BUT).only(Span.since(7))
        self.assertEqual(form(given).family(), family(BUT))
        self.assertEqual(str((form(given).family() ^ given).span()), "1-6")

    def test_equal(self):
        one, other = form(family(BUT)), form(family("{(all - {u}) for u in all}").only(Span.since(4)))
        self.assertTrue(one == other and not one != other)
        self.assertNotEqual(one.start, other.start)
        self.assertEqual(one.text, other.text)
        self.assertEqual(form(family("{ann, bob}", "ann", "bob")), form(family("{bob, ann}", "bob", "ann")))
        self.assertNotEqual(form(family("all", "ann")), form(family("all")))
        for thing in (None, one.pattern, one.text, family(BUT), 3):
            self.assertFalse(one == thing)

    def test_texts(self):
        forms = [form(family(text, *known)) for text in POOL + ("{}", "'a'", "[]", "all", "(all - {ann})")
                 for known in (("ann", "bob"), ("bob", "ann"))]
        for one, other in itertools.product(forms, repeat=2):
            self.assertIs(type(one.text), str)
            self.assertIs(one == other, one.text == other.text)
            equal = all(one(n, 10 ** 6) is not None and plain.from_shown(one(n, 10 ** 6)) == plain.from_shown(other(n, 10 ** 6)) for n in (2, 5))
            if equal != (one == other):
                self.assertEqual(plain.from_shown(one(7, 10 ** 6)) == plain.from_shown(other(7, 10 ** 6)), one == other)

    def test_the_same_in_other_words(self):
        for one, other in (("{[{u, v}, v] for u in all for v in all}", "{[{v, u}, u] for u in all for v in all}"),
                           (ROTATED, ROTATED.replace("[u, v], [v, w], [w, u]", "[v, u], [u, w], [w, v]")),
                           ("{{[v, w] for v in all for w in all if not (v == u)} for u in all}",
                            "{({[v, w] for v in all for w in all} - {[u, w] for w in all}) for u in all}")):
            self.assertEqual(form(family(one)), form(family(other)))
            self.assertEqual(form(family(one)).text, form(family(other)).text)

    def test_what_is_passed_stays(self):
        given = family(BUT, "ann")
        before = given & given
        found = form(given)
        found(3), found.family(), found.text, found.sorts, found.size
        self.assertEqual(given, before)
        given |= family("all", "ann")
        self.assertEqual(found.family(), before)
        more = found.family()
        more |= given
        self.assertEqual(found.family(), before)


if __name__ == "__main__":
    unittest.main()
