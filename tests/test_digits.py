"""Numbers with more digits than Python writes at once (4300): points [14], [26], [38], [42], [58] and others."""

import sys
import unittest

from everyname.digits import decimal
from everyname.families import Family
from everyname.forms import form
from everyname.pairings import pairing
from everyname.papers import follows, turn, why
from everyname.picks import picks
from everyname.runs import run
from everyname.sizes import Size
from everyname.spans import Span
from everyname.stretches import Courses
from everyname.tallies import Tally, where
from everyname.values import members_of, others_in, renumbered, value_text
from everyname.world import World
from helpers import RaisingTestCase, check, family, program, tree

GREAT = 10 ** 5000
ZEROS = "0" * 5000
ROWS = "{[u, v] for u in all for v in all}"
PAIRS = "{{u, v} for u in all for v in all if not (u == v)}"


def others(many):
    """The greatest others of the stock with GREAT others."""
    return tuple(("other", GREAT - k) for k in range(many))


class DecimalTest(unittest.TestCase):
    def test_as_python_writes_them(self):
        for k in (0, 1, 9, 10, 59, 60, 61, 120, 121, 4000):
            for number in (k, 10 ** k - 1, 10 ** k, 10 ** k + 1, 7 * 10 ** k + 10 ** (k // 2)):
                self.assertEqual(decimal(number), str(number))

    def test_of_any_length(self):
        for k in (4299, 4300, 4301, 5000, 9001):
            self.assertEqual(decimal(10 ** k), "1" + "0" * k)
            self.assertEqual(decimal(10 ** k - 1), "9" * k)
            self.assertEqual(decimal(10 ** k + 12), "1" + "0" * (k - 2) + "12")

    def test_whatever_python_is_told_to_write(self):
        limit = sys.get_int_max_str_digits()
        self.addCleanup(sys.set_int_max_str_digits, limit)
        for most in (640, 0):
            sys.set_int_max_str_digits(most)
            self.assertEqual(decimal(10 ** 641), "1" + "0" * 641)
            self.assertEqual(str(Span.since(10 ** 700 + 3)), "1" + "0" * 699 + "3-")


class TextsTest(unittest.TestCase):
    def test_spans(self):
        self.assertEqual(str(Span.single(GREAT)), "1" + ZEROS)
        self.assertEqual(str(Span.since(GREAT)), "1" + ZEROS + "-")
        self.assertEqual(str(Span.until(GREAT)), "0-1" + ZEROS)
        self.assertEqual(str(Span([(GREAT, GREAT + 7), (0, 0)])), "0, 1" + ZEROS + "-1" + "0" * 4999 + "7")
        self.assertEqual(str(~Span([(GREAT, GREAT + 4), (3, 9)])), "0-2, 10-" + "9" * 5000 + ", 1" + "0" * 4999 + "5-")

    def test_where(self):
        self.assertEqual(str(where(Size([0, 1]), ">", GREAT)), "1" + "0" * 4999 + "1-")
        self.assertEqual(str(where(Tally([(0, 1), (GREAT, 0)]), "==", 1)), "0-" + "9" * 5000)

    def test_values(self):
        self.assertEqual(value_text(("row", others(1))), "[#1" + ZEROS + "]")
        self.assertEqual(members_of(("set", (("other", GREAT + 1), ("other", GREAT)))), (("other", GREAT), ("other", GREAT + 1)))
        self.assertEqual(others_in(("set", others(2))), (GREAT - 1, GREAT))
        self.assertEqual(renumbered(("set", (("other", 1),)), (GREAT,)), ("set", others(1)))


class FarOutTest(RaisingTestCase):
    """Nothing is written as digits where n and the numbers of others have more of them."""

    def test_runs(self):
        done = run(program("x = all"), GREAT)
        self.assertEqual(done.count("x"), GREAT + 1)
        self.assertRaisesJust("TooMany", GREAT + 1, done.value, "x")
        self.assertRaisesJust("BadValue", -GREAT, run, program("x = all"), -GREAT)
        self.assertEqual(Courses(program("x = all"))[GREAT].end, "rests")

    def test_members(self):
        for text, holds in (("{}", False), ("{{}}", False), ("{all, {}}", False), ("all", False), (PAIRS, False),
                            ("{{w, x, y} for w in all for x in all for y in all}", False)):
            self.assertIs(family(text).has(GREAT, ("set", others(5))), holds, text)
        self.assertIs(family(PAIRS).has(GREAT, ("set", others(2))), True)
        self.assertIs(family(ROWS).has(GREAT, ("row", others(2))), True)
        self.assertIs(family("{[all]}").has(GREAT, ("row", others(4))), False)
        wrong = ("other", GREAT + 1)
        self.assertRaisesJust("BadValue", wrong, family("all").has, GREAT, wrong)

    def test_families(self):
        late = family(PAIRS).only(Span.since(GREAT))
        self.assertEqual(str(late.span()), "1" + ZEROS + "-")
        self.assertEqual(late.apart(Family.of((), ("set",)))[0], GREAT)
        self.assertRaisesJust("TooMany", 2, late.apart, Family.of((), ("set",)), 1)
        self.assertEqual(late.count(GREAT), GREAT * (GREAT - 1) // 2)
        self.assertEqual(late.sizes.settles, GREAT)
        self.assertEqual((form(late).start, form(late).text), (GREAT, form(family(PAIRS)).text))
        self.assertEqual(late.at_known("ann").span().least(), GREAT - 1)

    def test_pairings(self):
        late = family(PAIRS).only(Span.since(GREAT))
        apart = family("{[u, v] for u in all for v in all if not (u == v)}")
        self.assertEqual((pairing(apart, late).found, pairing(apart, late).start), (True, GREAT))
        self.assertEqual(picks(late).start, GREAT)
        within = family("{[t, v] for t in " + PAIRS + " for v in t}")
        self.assertEqual(picks(late).stuck.shows(late, family("all"), GREAT, within=within), 0)

    def test_worlds(self):
        world = World()
        world["x"] = tree(ROWS)
        world.rule("r", (tree("{[v, u] for [u, v] in x}"),))
        row = ("row", others(2))
        paper = why(world, "r", GREAT, row)
        self.assertEqual((len(paper), turn(world, "r", GREAT, row), follows(world, "r", GREAT, row, paper)), (1, 1, -1))
        self.assertRaisesJust("TooMany", GREAT ** 2, world.values_at, GREAT)
        self.assertEqual(str(world.span(check("(count(x) == 4)"))), "2")


if __name__ == "__main__":
    unittest.main()
