"""The examples of the document's section "Examples", as they stand there."""

import unittest

from everyname.families import Family
from everyname.forms import form
from everyname.groups import compose
from everyname.picks import picks
from everyname.programs import Program
from everyname.runs import run
from everyname.sizes import Size
from everyname.stretches import Courses
from everyname.tallies import where
from everyname.values import renumbered, value_text
from everyname.world import World
from helpers import RaisingTestCase


class ExamplesTest(RaisingTestCase):
    def test_programs(self):
        P = Program.read("known ann\nnear = {[u, v] for u in all for v in all if not (u == v)}\nmet = {ann}\nwhile (count(met) < 3):\n"
                         "  met |= {v for [u, v] in near if (u in met)}")
        self.assertEqual([P.known, P.variables, len(P.statements), Program.read(P.text) == P], [("ann",), ("met", "near"), 3, True])
        self.assertEqual([run(P, 1).end, run(P, 1).entry, run(P, 1).length, run(P, 1).rounds, run(P, 1).course],
                         ["round", 1, 1, 2, (True, True)])
        self.assertEqual([run(P, 2).end, run(P, 2).entry, run(P, 2).rounds, run(P, 10 ** 300).count("met") == 10 ** 300 + 1],
                         ["rests", None, 2, True])
        self.assertRaisesJust("TooMany", 501, run(P, 500).value, "met")
        C = Courses(P)
        self.assertEqual([len(C), C.rows[0].hi, C.rows[1].lo, C.rows[2].hi, C.trials(), C.tally("near")(10)],
                         [3, 0, 1, None, [0, 1, 2], 110])
        self.assertEqual(str(C.span(("compare", ("count", ("var", "met")), "<", ("whole", 3)))), "0-1")

    def test_errors(self):
        self.assertRaisesJust("BadText", 2, Program.read, "known\nx = (all | 3)")
        self.assertRaisesJust("BadProgram", (0,), Program, (), (("put", "x", ("known", "ann")),))

    def test_values(self):
        self.assertEqual(value_text(("set", (("other", 2), ("row", ()), ("other", 10)))), "{#10, #2, []}")
        self.assertEqual(renumbered(("row", (("other", 1), ("known", "ann"))), (7,)), ("row", (("other", 7), ("known", "ann"))))

    def test_sizes(self):
        self.assertEqual(Size([-5, 2]).signs(), [(0, 2, -1), (3, None, 1)])
        self.assertEqual(str(where(Size([0, 1, 2]), ">", 100)), "11-")

    def test_families(self):
        A = Family.of((), ("gather", ("gather", ("var", "v"), (("v", ("all",)),), ("not", ("same", ("var", "v"), ("var", "u")))),
                           (("u", ("all",)),), ("true",)))
        B = Family.of((), ("gather", ("set", ("var", "u")), (("u", ("all",)),), ("true",)))
        self.assertEqual([A(1), B(1), str((A & B).span()), A <= B, A.count(10 ** 9)],
                         [("set", (("set", ()),)), ("set", (("set", (("other", 1),)),)), "2", False, 1000000000])
        self.assertEqual([(A | B).sizes(2), (A | B).sizes.settles, (A | B).sizes.last.row], [2, 3, (0, 2)])
        F = form(A)
        self.assertEqual([F.start, F.sorts, F.groups, F.size.row], [0, ((1, 1),), (((0,),),), (0, 1)])
        two = Family.of((), ("gather", ("set", ("var", "u"), ("var", "v")), (("u", ("all",)), ("v", ("all",))),
                             ("not", ("same", ("var", "u"), ("var", "v")))))
        self.assertEqual([picks(two).found, picks(two).pairs, picks(two).stuck.side], [False, None, "left"])

    def test_worlds(self):
        w = World(("ann",))
        w["link"] = ("gather", ("row", ("known", "ann"), ("var", "u")), (("u", ("all",)),), ("not", ("same", ("var", "u"), ("known", "ann"))))
        self.assertEqual([w["link"].count(4), len(w), "link" in w, w.names], [4, 1, True, ("ann",)])
        self.assertRaisesJust("Broken", {"name": "few", "n": 5}, w.guard, "few",
                              ("compare", ("count", ("var", "link")), "<", ("whole", 5)))

    def test_groups(self):
        self.assertEqual(compose((1, 0, 2), (0, 2, 1)), (1, 2, 0))


if __name__ == "__main__":
    unittest.main()
