"""Points [74] to [78] for everyname/pairings.py and everyname/picks.py."""

import itertools
import unittest

import plain
from everyname.families import Family
from everyname.pairings import Answer, Stuck, pairing
from everyname.picks import picks
from everyname.spans import Span
from helpers import FAR, FARTHER, RaisingTestCase, family, filled, read, sets_in, tree

TWO = "{{u, v} for u in all for v in all if not (u == v)}"
ROW = "{[u, v] for u in all for v in all if not (u == v)}"
BUT = "{(all - {u}) for u in all}"
SINGLE = "{{u} for u in all}"
MARKED = "{[m, p] for m in {'a', 'b'} for p in " + TWO + "}"
DIFFERENT = "((not (u == v) and not (v == w)) and not (u == w))"
FIVE = ("{({u, v, w} | {{[u, v], [v, w], [w, u]}, {[v, u], [w, v], [u, w]}}) for u in all for v in all for w in all if " + DIFFERENT + "}")
RINGS = "{{[u, v], [v, w], [w, u]} for u in all for v in all for w in all if " + DIFFERENT + "}"
TEXTS = (TWO, ROW, BUT, SINGLE, MARKED, "all", "{[u, u] for u in all}", "{'a', 'b'}", "{}", "'a'", "{{}, all}",
         "{[u, m] for u in all for m in {'a', 'b'}}", "{[u, v] for u in all for v in all}", "{{u, v} for u in all for v in all}")
KINDS = tuple({"one": one, "onto": onto} for one in (False, True) for onto in (False, True))
SET = ("set", ((0, ("slot", 0)), (0, ("slot", 1))))


def row(a, b):
    return ("row", (a, b))


def is_pairing(m, x, y, w, one, onto):
    """Point [74] at one n, for plain values."""
    m, x, y = (plain.members(value) for value in (m, x, y))
    if not all(member[0] == "row" and len(member[1]) == 2 and member[1][0] in x and member[1][1] in y for member in m):
        return False
    if not all(sum(member[1][0] == a for member in m) == 1 for a in x):
        return False
    if one and not all(sum(member[1][1] == b for member in m) <= 1 for b in y):
        return False
    if onto and not all(any(member[1][1] == b for member in m) for b in y):
        return False
    return w is None or m <= plain.members(w)


def renamings(n):
    return list(itertools.permutations(range(1, n + 1)))


def exists(x, y, w, n, one, onto):
    """Tell whether there is a pairing at n that is the same under every renaming, by going through them."""
    x, y = plain.members(x), plain.members(y)
    group = renamings(n)

    def kept(value):
        return frozenset(k for k, numbers in enumerate(group) if plain.renamed(value, numbers) == value)

    def orbits(values):
        left, found = set(values), []
        while left:
            orbit = {plain.renamed(next(iter(left)), numbers) for numbers in group}
            found.append(orbit)
            left -= orbit
        return found
    starts, ends = orbits(x), orbits(y)
    keeps = {value: kept(value) for value in x | y}
    edges = []
    for start in starts:
        a = next(iter(start))
        edges.append({k for k, end in enumerate(ends) for b in end if (w is None or row(a, b) in plain.members(w))
                      and (keeps[a] == keeps[b] if one else keeps[a] <= keeps[b])})

    def covers(free, lists):
        """Tell whether each list has an item of its own."""
        return not lists or any(covers(free - {k}, lists[1:]) for k in lists[0] & free)
    if not all(edges) or (one and not covers(frozenset(range(len(ends))), edges)):
        return False
    if not onto:
        return True
    back = [{k for k, found in enumerate(edges) if end in found} for end in range(len(ends))]
    if one and len(starts) != len(ends):
        return False
    return covers(frozenset(range(len(starts))), back)


def first_broken(stuck, x, y, w, n, one, onto):
    """Point [76] at one n, by going through all fillings."""
    near, far = (x, y) if stuck.side == "left" else (y, x)
    near, far = plain.members(near), plain.members(far)
    if any(len(r) > n for *_, r in stuck.moves):
        return 1
    for items, values in ((stuck.crowd, near), (stuck.fewer, far)):
        readings = [{read(p, full, n) for full in filled((), k, n)} for k, p in items]
        if not all(found and found <= values for found in readings) or any(a & b for a, b in itertools.combinations(readings, 2)):
            return 1
    if stuck.side == "left" and not one:
        if len(stuck.crowd) != 1 or stuck.fewer:
            return 2
    elif not len(stuck.fewer) < len(stuck.crowd) or (stuck.side == "right" and not onto):
        return 2
    crowd, fewer = ({read(p, full, n) for k, p in items for full in filled((), k, n)} for items in (stuck.crowd, stuck.fewer))
    told = {(read(a, full, n), read(b, full, n)) for k, a, b, _ in stuck.moves for full in filled((), k, n)}
    for c, d in itertools.product(crowd, far - fewer):
        a, b = (c, d) if stuck.side == "left" else (d, c)
        if (w is None or row(a, b) in plain.members(w)) and (a, b) not in told:
            return 3
    for k, a, b, r in stuck.moves:
        same = [{read(p, f[:k], n) == read(p, tuple(f[i] for i in r)[:k], n) for f in filled((), len(r), n)} for p in (a, b)]
        if not (same == [{True}, {False}] or (one and same == [{False}, {True}])):
            return 4
    return 0


class PairingsTestCase(RaisingTestCase):
    def assertAnswer(self, x, y, within=None, most=4, **kind):
        """Check an answer by plain loops; return it."""
        found = pairing(x, y, within=within, **kind)
        self.assertIs(type(found), Answer)
        self.assertIs(type(found.found), bool)
        self.assertIs((found.pairs is None), not found.found)
        self.assertIs((found.stuck is None), found.found)
        one, onto = kind.get("one", False), kind.get("onto", False)
        values = [[None if each is None else plain.from_shown(each(n, 10 ** 7)) for each in (x, y, within)] for n in range(most + 1)]
        for n in range(most + 1):
            if found.found:
                self.assertEqual(found.pairs.known, x.known)
                holds = is_pairing(plain.from_shown(found.pairs(n, 10 ** 6)), *values[n], one, onto)
                self.assertEqual(found.pairs(n, 10 ** 6)[0], "set")
            else:
                number = found.stuck.shows(x, y, n, within=within, **kind)
                self.assertEqual(number, first_broken(found.stuck, *values[n], n, one, onto))
                holds = number == 0
                if holds:
                    self.assertFalse(exists(*values[n], n, one, onto), n)
            if n >= found.start:
                self.assertTrue(holds, (n, found.start))
            if n == found.start - 1:
                self.assertFalse(holds, (n, found.start))
        if not found.found:
            self.assertStuck(found.stuck)
            self.assertEqual([found.stuck.shows(x, y, n, within=within, **kind) for n in (found.start, found.start + 7, FARTHER)], [0] * 3)
        return found

    def assertStuck(self, stuck):
        self.assertIs(type(stuck), Stuck)
        self.assertIn(stuck.side, ("left", "right"))
        for k, a, b, r in stuck.moves:
            self.assertIn(len(r), (k, k + 1))
            self.assertEqual(sorted(r), list(range(len(r))))
            self.assertDepends(("row", (a, b)), k)
        for k, p in stuck.crowd + stuck.fewer:
            self.assertDepends(p, k)

    def assertDepends(self, pattern, k):
        """Check that a pattern depends on each of its slots, and those of items in it on theirs (at n = 6 or 7)."""
        n = 7 if k < 4 else 8
        full = tuple(range(1, k + 1))
        if max([many + max([own for own, _ in items], default=0) for many, items in sets_in(pattern, k)], default=0) > 4:
            return
        for i in range(k):
            self.assertNotEqual(read(pattern, full, n), read(pattern, full[:i] + (n,) + full[i + 1:], n))
        for many, items in sets_in(pattern, k):
            for own, p in items:
                longer = tuple(range(1, many + own + 1))
                for i in range(many, many + own):
                    self.assertNotEqual(read(p, longer, n), read(p, longer[:i] + (n,) + longer[i + 1:], n))


class ExamplesTest(PairingsTestCase):
    """The examples by hand behind [78]."""

    def test_picks_of_two(self):
        two = family(TWO)
        found = picks(two)
        self.assertEqual([found.found, found.pairs, found.stuck.side, found.start], [False, None, "left", 2])
        j, w = family("{u for u in all if (count(all) >= 2)}"), Family.of((), tree("{[t, v] for t in " + TWO + " for v in t}"))
        given = Stuck("left", ((2, SET),), (), ((2, SET, ("slot", 0), (1, 0)),))
        for stuck in (given, found.stuck):
            self.assertEqual([stuck.shows(two, j, n, within=w) for n in (0, 1, 2, 3, 4, FARTHER)], [1, 1, 0, 0, 0, 0])
            self.assertEqual(stuck.shows(two, j, 2), 0)
            self.assertEqual(stuck.shows(two, j, 3), 3)

    def test_rows_and_sets(self):
        row, two, marked = family(ROW), family(TWO), family(MARKED)
        found = self.assertAnswer(row, two, onto=True)
        self.assertEqual((found.found, found.start), (True, 0))
        self.assertFalse(self.assertAnswer(two, row).found)
        self.assertEqual(row.sizes, marked.sizes)
        found = self.assertAnswer(row, marked, onto=True)
        self.assertEqual([found.found, found.stuck.side, len(found.stuck.crowd), len(found.stuck.fewer), found.stuck.moves, found.start],
                         [False, "right", 2, 1, (), 2])
        self.assertTrue(pairing(row, marked).found)

    def test_five_members(self):
        found = picks(family(FIVE))
        self.assertFalse(found.found)
        self.assertEqual(found.stuck.side, "left")
        self.assertEqual(len(found.stuck.moves), 2)

    def test_a_known_name_is_picked(self):
        found = picks(family("{{u, v, ann} for u in all for v in all}", "ann"))
        self.assertEqual((found.found, found.start, found.pairs.known), (True, 0, ("ann",)))
        self.assertEqual(found.pairs.sizes, family("{{u, v, ann} for u in all for v in all}", "ann").sizes)


class AnswersTest(PairingsTestCase):
    """Point [75] against plain loops."""

    def test_all_kinds(self):
        for left, right in itertools.product(TEXTS, repeat=2):
            for kind in KINDS:
                self.assertAnswer(family(left), family(right), most=3, **kind)

    def test_known_names(self):
        for left, right in itertools.product((TWO, SINGLE, "all", BUT, "{ann}", "{[u, v] for u in all for v in all if not (u == v)}"), repeat=2):
            for kind in KINDS:
                found = self.assertAnswer(family(left, "ann"), family(right, "ann"), most=3, **kind)
                if found.found:
                    self.assertEqual(found.pairs.known, ("ann",))

    def test_within(self):
        relations = ("{}", "{[u, u] for u in all}", "{[{u, v}, u] for u in all for v in all}", "{[u, {u}] for u in all}",
                     "{[u, (all - {v})] for u in all for v in all}", "{[u, v] for u in all for v in all if not (u == v)}",
                     "{[[u, v], {u, v}] for u in all for v in all}", "{[[u, v], u] for u in all for v in all}",
                     "{[(all - {u}), {u}] for u in all}", "{[{u}, (all - {v})] for u in all for v in all if not (u == v)}")
        for left, right in itertools.product((TWO, ROW, SINGLE, "all", BUT), repeat=2):
            for text in relations:
                for kind in KINDS:
                    self.assertAnswer(family(left), family(right), within=family(text), most=3, **kind)

    def test_five(self):
        for text in (TWO, RINGS, "all"):
            for kind in KINDS:
                self.assertAnswer(family(RINGS), family(text), most=4, **kind)

    def test_start_far_out(self):
        more = family(SINGLE) | family("{u for u in {'a'} if (count(all) <= 1" + "0" * 60 + ")}")
        found = pairing(family("all"), more, onto=True)
        self.assertEqual((found.found, found.start), (True, FAR + 1))
        self.assertEqual(pairing(more, family("all")).start, FAR + 1)
        bars = family(TWO).only(Span.since(FAR))
        found = pairing(bars, family("all"))
        self.assertEqual((found.found, found.start, found.stuck.shows(bars, family("all"), FAR - 1)), (False, FAR, 1))

    def test_start_where_within_begins(self):
        same = family("{[u, u] for u in all}")
        for span, start in ((Span.since(0), 0), (Span.since(3), 3), (~Span.single(FAR), FAR + 1)):
            for kind in KINDS:
                found = self.assertAnswer(family("all"), family("all"), within=same.only(span), most=4, **kind)
                self.assertEqual((found.found, found.start), (True, start))
        found = pairing(family("all"), family("all"), within=same.only(Span.until(FAR)))
        self.assertEqual((found.found, found.start), (False, FAR + 1))

    def test_one_to_one_needs_the_same_renamings_on_both_sides(self):
        found = self.assertAnswer(family(ROW), family(TWO), one=True)
        self.assertEqual((found.found, found.stuck.side), (False, "left"))
        self.assertTrue(self.assertAnswer(family(BUT), family(SINGLE), one=True, onto=True).found)
        # Three sorts of rows, of which two would need the one sort of sets.
        marks = family("{[u, m] for u in all for m in {'a', 'b', 'c'}}")
        found = self.assertAnswer(marks, family("{[u, m] for u in all for m in {'a', 'b'}}"), one=True, most=3)
        self.assertEqual((found.stuck.side, len(found.stuck.crowd), len(found.stuck.fewer)), ("left", 3, 2))

    def test_matching_that_has_to_be_changed(self):
        # The first sort may have both partners, the second one only the one that the first would take.
        x, y = family("{[u, m] for u in all for m in {'a', 'b', 'c'}}"), family("{[u, m] for u in all for m in {'d', 'e', 'f'}}")
        for pairs in itertools.product(("d", "e", "f", "de", "ef", "df", "def"), repeat=3):
            parts = [f"{{[[u, '{m}'], [u, '{k}']] for u in all}}" for m, found in zip("abc", pairs) for k in found]
            text = parts[0]
            for part in parts[1:]:
                text = f"({text} | {part})"
            for kind in KINDS:
                found = self.assertAnswer(x, y, within=family(text), most=2, **kind)
                free = any(len(set(choice)) == 3 for choice in itertools.product(*pairs))
                self.assertEqual(found.found, free or not (kind["one"] or kind["onto"]))


class ShowsTest(PairingsTestCase):
    """Points [76] and [77]: papers of a caller."""
    two, all = family(TWO), family("all")

    def shown(self, *told, x=None, y=None, **kind):
        """What shows gives at n = 0 to 4, checked by plain loops, for a Stuck of a caller."""
        stuck, x, y = Stuck(*told), x or self.two, y or self.all
        found = [stuck.shows(x, y, n, **kind) for n in range(5)]
        values = [[plain.from_shown(each(n)) for each in (x, y)] for n in range(5)]
        self.assertEqual(found, [first_broken(stuck, *values[n], None, n, kind.get("one", False), kind.get("onto", False))
                                 for n in range(5)])
        self.assertEqual((stuck.side, stuck.crowd, stuck.fewer, stuck.moves), told)
        return found

    def test_each_condition_broken_in_turn(self):
        inside, outside = (2, SET, ("slot", 0), (1, 0)), (3, SET, ("slot", 2), (0, 1, 3, 2))
        crowd = ((2, SET),)
        self.assertEqual(self.shown("left", crowd, (), (inside, outside)), [1, 1, 1, 1, 0])
        self.assertEqual(self.shown("left", crowd, (), (inside,))[2:], [0, 3, 3])
        self.assertEqual(self.shown("left", crowd, (), (outside,)), [1, 1, 1, 1, 3])
        self.assertEqual(self.shown("left", crowd, (), (inside, (3, SET, ("slot", 2), (0, 1, 2)))), [1, 1, 1, 4, 4])
        self.assertEqual(self.shown("left", crowd, (), (inside, (3, SET, ("slot", 2), (2, 1, 0)))), [1, 1, 1, 4, 4])
        self.assertEqual(self.shown("left", crowd, ((1, ("slot", 0)),), (inside, outside)), [1, 1, 1, 1, 2])
        self.assertEqual(self.shown("left", (), (), ()), [2] * 5)
        self.assertEqual(self.shown("left", ((1, ("set", ((0, ("slot", 0)),))),), (), ()), [1] * 5)
        self.assertEqual(self.shown("left", crowd + crowd, (), (inside, outside)), [1] * 5)
        self.assertEqual(self.shown("right", ((1, ("slot", 0)),), (), (inside, outside)), [1, 1, 1, 1, 2])
        self.assertEqual(self.shown("right", ((1, ("slot", 0)),), (), (inside, outside), onto=True), [1, 1, 1, 1, 0])
        self.assertEqual(self.shown("right", ((1, ("slot", 0)),), ((2, SET),), (), onto=True)[2:], [2, 2, 2])

    def test_conditions_that_hold_at_one_n_alone(self):
        x = family(BUT) | family(SINGLE)
        items = ((1, ("set", ((1, ("slot", 1)),))), (1, ("set", ((0, ("slot", 0)),))))
        # At n = 2, the two items have the same readings.
        self.assertEqual(self.shown("left", items, ((1, ("slot", 0)),), (), x=x, one=True), [1, 0, 1, 0, 0])
        self.assertEqual(self.shown("left", items[::-1], ((1, ("slot", 0)),), (), x=x), [1, 2, 1, 2, 2])

    def test_keeping_and_moving_with_one(self):
        row = family(ROW)
        pair = ("row", (("slot", 0), ("slot", 1)))
        told = ("left", ((2, pair),), (), ((2, pair, SET, (1, 0)), (3, pair, ("set", ((0, ("slot", 0)), (0, ("slot", 2)))), (0, 1, 3, 2)),
                                           (3, pair, ("set", ((0, ("slot", 1)), (0, ("slot", 2)))), (0, 1, 3, 2)),
                                           (4, pair, ("set", ((0, ("slot", 2)), (0, ("slot", 3)))), (0, 1, 4, 3, 2))))
        stuck = Stuck(*told)
        self.assertEqual([stuck.shows(row, self.two, n, one=True) for n in (4, 5, 6, FARTHER)], [1, 0, 0, 0])
        self.assertEqual([stuck.shows(row, self.two, n) for n in (5, 6, FARTHER)], [4, 4, 4])

    def test_readings_of_items_with_own_slots_far_out(self):
        told = ("left", ((0, ("set", ((1, ("slot", 0)),))),), (), ((1, ("set", ((0, ("slot", 0)), (1, ("slot", 1)))), ("slot", 0), (1, 0)),))
        x = family("{all}")
        self.assertEqual(self.shown(*told, x=x), [1, 1, 0, 0, 0])
        self.assertEqual(Stuck(*told).shows(x, self.all, FARTHER), 0)
        self.assertEqual(Stuck(*told).shows(x.only(~Span.single(FAR)), self.all, FAR), 1)

    def test_errors(self):
        stuck = Stuck("left", ((2, SET),), (), ())
        a, b, c = family("all", "ann", "bob"), family("all", "bob", "ann"), family("all", "cy")
        for call in (pairing, lambda x, y, **more: stuck.shows(x, y, -1, **more)):
            self.assertOther(("ann", "bob"), ("cy",), call, a, c)
            self.assertOther(("ann", "bob"), ("cy",), call, a, c, within=family("all"))
            self.assertOther(("ann", "bob"), ("cy",), call, a, b, within=c)
            self.assertOther(("cy",), (), call, c, family("all"))
        self.assertTrue(pairing(a, b, within=family("{[u, u] for u in all}", "bob", "ann")).found)
        for n in (-1, True, None, "3", 2.0, -FARTHER):
            self.assertRaisesJust("BadValue", n, stuck.shows, a, b, n)

    def test_arguments_by_name(self):
        with self.assertRaises(TypeError):
            pairing(self.two, self.all, True)
        with self.assertRaises(TypeError):
            Stuck("left", (), (), ()).shows(self.two, self.all, 3, True)

    def test_what_is_passed_stays(self):
        x, y, w = family(ROW), family(TWO), family("{[[u, v], {u, v}] for u in all for v in all}")
        found = pairing(x, y, onto=True, within=w)
        self.assertTrue(found.found and found.pairs <= w)
        self.assertEqual([x, y], [family(ROW), family(TWO)])
        self.assertEqual(w, family("{[[u, v], {u, v}] for u in all for v in all}"))
        pairs = found.pairs
        pairs |= w
        self.assertEqual(pairing(x, y, onto=True, within=w).pairs, family("{[[u, v], {u, v}] for u in all for v in all if not (u == v)}"))


class PicksTest(PairingsTestCase):
    """Point [78]."""

    def assertPicks(self, text, found, *known, most=4):
        s = family(text, *known)
        answer = picks(s)
        self.assertIs(answer.found, found, text)
        members = Family.of(known, ("join", tree(text, known)))
        w = Family.of(known, ("gather", ("row", ("var", "tt"), ("var", "vv")), (("tt", tree(text, known)), ("vv", ("var", "tt"))), ("true",)))
        other = self.assertAnswer(s, members, within=w, most=most)
        self.assertEqual((other.found, other.start), (answer.found, answer.start))
        if found:
            for n in range(answer.start, most + 1):
                for member in plain.members(plain.from_shown(s(n, 10 ** 6))):
                    picked = [each[1][1] for each in plain.members(plain.from_shown(answer.pairs(n, 10 ** 6))) if each[1][0] == member]
                    self.assertEqual(len(picked), 1)
                    self.assertIn(picked[0], plain.members(member))

    def test_picks(self):
        for text, found in ((TWO, False), (SINGLE, True), (BUT, False), ("{}", True), ("'a'", True), ("{{}}", False), ("{all}", False),
                            ("{{u, {u, v}} for u in all for v in all}", True), ("{{u, {v}} for u in all for v in all}", True),
                            ("{{{u}, {v}} for u in all for v in all if not (u == v)}", False), ("{'a', {'a'}}", False),
                            ("{{u, [u, v]} for u in all for v in all}", True), ("{{[u, v], [v, u]} for u in all for v in all}", False),
                            ("{{[u, v], [v, v]} for u in all for v in all}", True), ("{{u, v, 'a'} for u in all for v in all}", True)):
            self.assertPicks(text, found)

    def test_known_names(self):
        self.assertPicks("{all}", True, "ann")
        self.assertPicks("{{u, v, ann} for u in all for v in all}", True, "ann", most=3)
        self.assertPicks("{all, (all - {ann})}", False, "ann")
        self.assertPicks("{{u, ann} for u in all}", True, "ann", "bob")
        self.assertPicks("{{u, v} for u in all for v in {ann, bob}}", True, "ann", "bob")

    def test_members_without_members(self):
        for text in ("{all, {}}", "{{u} for u in all}", "all", "{'a'}", "{[all]}"):
            with self.subTest(text):
                self.assertIs(picks(family(text, "ann")).found, text == "{{u} for u in all}")

    def test_small_n_alone(self):
        found = picks(family(TWO).only(Span.until(FAR)))
        self.assertEqual((found.found, found.start), (True, FAR + 1))
        found = picks(family(TWO).only(Span.since(FAR)))
        self.assertEqual((found.found, found.start), (False, FAR))


if __name__ == "__main__":
    unittest.main()
