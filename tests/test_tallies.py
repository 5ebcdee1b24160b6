"""Points [30] to [32], [39] to [42] and [14] for everyname/tallies.py."""

import itertools
import operator
import random
import unittest

from everyname.errors import BadValue, NoBound
from everyname.sizes import Size
from everyname.spans import Span
from everyname.tallies import Tally, where

FAR = 10 ** 60
FARTHER = 10 ** 300
N = Size([0, 1])
PLACES = list(range(30)) + [FAR - 1, FAR, FAR + 1, FARTHER]
SIGNS = {"<": operator.lt, "<=": operator.le, "==": operator.eq, "!=": operator.ne, ">": operator.gt, ">=": operator.ge}

# Lists of pieces; each list stands for a tally.
SAMPLES = [
    [(0, 0)], [(0, 5)], [(0, -3)], [(0, N)], [(0, Size([0, 1, 2]))], [(0, 0), (1, N)], [(0, N), (4, N), (9, N)],
    [(0, 5), (2, N)], [(0, N), (3, 7), (4, -N)], [(0, Size([4, -3, 2]))], [(0, 1), (1, 2), (2, 3), (3, 4)],
    [(0, Size([-5, 2])), (FAR, 0)], [(0, 3), (FAR, N - FAR)], [(0, N * N - 10 * N), (6, 2), (7, 5 - N)],
    [(0, FARTHER), (20, Size([0, 0, 0, 1]))], [(0, N), (10, 10), (20, 30 - N), (30, 0)]]
TALLIES = [Tally(pieces) for pieces in SAMPLES]

NO_INTEGERS = [None, True, False, "1", 1.0, (), [1], {}, b"a"]


def value(pieces, n):
    """The value of a tally as point [30] says it."""
    size = [size for low, size in pieces if low <= n][-1]
    return size(n) if isinstance(size, Size) else size


class TallyTestCase(unittest.TestCase):
    def assertBadValue(self, shown, call, *given):
        with self.assertRaises(BadValue) as caught:
            call(*given)
        self.assertIs(type(caught.exception), BadValue)
        self.assertIs(caught.exception.shown, shown)

    def assertSame(self, tally, worth):
        """Check that tally is a tally with the value worth(n) at many places."""
        self.assertIs(type(tally), Tally)
        for n in PLACES:
            self.assertEqual(tally(n), worth(n), n)
        self.assertIs(type(tally.pieces), tuple)
        self.assertEqual(tally.pieces[0][0], 0)
        for low, size in tally.pieces:
            self.assertIs(type(size), Size)
        lows = [low for low, _ in tally.pieces]
        self.assertEqual(lows, sorted(set(lows)))
        for n in PLACES:
            self.assertEqual(value(tally.pieces, n), worth(n), n)


class PiecesTest(TallyTestCase):
    def test_values(self):
        for pieces in SAMPLES:
            for given in (pieces, tuple(pieces)):
                self.assertSame(Tally(given), lambda n: value(pieces, n))

    def test_one_piece(self):
        self.assertSame(Tally([(0, 0)]), lambda n: 0)
        self.assertSame(Tally(((0, Size()),)), lambda n: 0)

    def test_no_list_and_no_pieces(self):
        for pieces in (None, 3, "ab", {}, {0: 1}, N, Span(), iter([(0, 1)]), [], (), range(2), True):
            self.assertBadValue(pieces, Tally, pieces)

    def test_the_first_wrong_piece_is_shown(self):
        wrong = [[0, 1], (0,), (0, 1, 2), (), 5, None, "ab", (0, None), (0, True), (0, "1"), (0, 1.0), (0, (1,)),
                 (True, 1), (False, 1), (None, 1), ("0", 1), (0.0, 1), (0, Tally([(0, 1)])), (0, Span())]
        for pair in wrong + [(1, 0), (-1, 0), (FAR, N)]:
            self.assertBadValue(pair, Tally, [pair])
            self.assertBadValue(pair, Tally, [pair, (0, 1), None])
        for pair in wrong + [(0, 0), (4, 0), (-1, 0), (3, N)]:
            self.assertBadValue(pair, Tally, [(0, 1), (4, N), pair])
            self.assertBadValue(pair, Tally, ((0, 1), (4, N), pair, [7]))

    def test_wrong_piece_at_each_place(self):
        for many in range(1, 6):
            for place in range(many):
                pieces = [(3 * k, N) for k in range(many)]
                pieces[place] = (3 * place, True)
                self.assertBadValue(pieces[place], Tally, pieces)

    def test_wrong_n(self):
        for n in NO_INTEGERS + [-1, -FAR, N]:
            self.assertBadValue(n, Tally([(0, 5), (2, N)]), n)

    def test_pieces_are_copied(self):
        pieces = [(0, 1), (3, N)]
        tally = Tally(pieces)
        pieces[1] = (2, 0)
        pieces.append((9, 9))
        self.assertSame(tally, lambda n: 1 if n < 3 else n)
        kept = [(0, 1), (3, N), (5, N)]
        Tally(kept)
        self.assertEqual(kept, [(0, 1), (3, N), (5, N)])


class JoinedTest(TallyTestCase):
    def worth(self, parts, rest, n):
        for span, size in list(parts) + [(Span.since(0), rest)]:
            if n in span:
                return size(n) if isinstance(size, Size) else size

    def test_first_span_counts(self):
        spans = [Span(), Span.single(0), Span.single(4), Span.until(6), Span.since(3), Span.since(0),
                 Span([(1, 2), (5, 9), (20, None)]), Span([(0, 0), (FAR, None)]), Span([(2, 2), (4, 4), (7, FAR)])]
        sizes = [0, -4, N, Size([0, 0, 1]), FARTHER]
        rng = random.Random(1)
        for _ in range(150):
            parts = [(rng.choice(spans), rng.choice(sizes)) for _ in range(rng.randrange(5))]
            rest = rng.choice(sizes)
            self.assertSame(Tally.joined(parts, rest), lambda n: self.worth(parts, rest, n))
            self.assertSame(Tally.joined(tuple(parts)), lambda n: self.worth(parts, 0, n))

    def test_no_parts(self):
        self.assertSame(Tally.joined([]), lambda n: 0)
        self.assertSame(Tally.joined((), N), lambda n: n)
        self.assertSame(Tally.joined([(Span(), 7)], rest=3), lambda n: 3)

    def test_wrong_arguments(self):
        for parts in (None, 3, "ab", {}, N, Span(), iter([]), True, range(0)):
            self.assertBadValue(parts, Tally.joined, parts)
            self.assertBadValue(parts, Tally.joined, parts, None)
        good = (Span.until(3), N)
        for pair in ([Span(), 1], (Span(),), (Span(), 1, 2), (), None, 5, (1, Span()), (Span(), True), (Span(), None),
                     ((0, 3), 1), (Span(), Tally([(0, 1)])), (None, 1)):
            for parts in ([pair], [good, pair], (good, pair, None), [pair, good]):
                self.assertBadValue(pair, Tally.joined, parts)
                self.assertBadValue(pair, Tally.joined, parts, None)
        for rest in NO_INTEGERS + [Tally([(0, 1)]), Span()]:
            self.assertBadValue(rest, Tally.joined, [good], rest)
            self.assertBadValue(rest, Tally.joined, [], rest)

    def test_spans_may_change_later(self):
        span = Span.until(4)
        parts = [(span, N)]
        tally = Tally.joined(parts, -1)
        span |= Span.since(9)
        parts.clear()
        self.assertSame(tally, lambda n: n if n < 5 else -1)
        self.assertEqual(span, Span([(0, 4), (9, None)]))


class OperatorTest(TallyTestCase):
    def test_sums_differences_and_products(self):
        for a, b in itertools.product(TALLIES, repeat=2):
            self.assertSame(a + b, lambda n: a(n) + b(n))
            self.assertSame(a - b, lambda n: a(n) - b(n))
            self.assertSame(a * b, lambda n: a(n) * b(n))

    def test_sizes_and_integers_on_either_side(self):
        for a in TALLIES:
            for k in (0, 1, -7, FAR):
                self.assertSame(a + k, lambda n: a(n) + k)
                self.assertSame(k + a, lambda n: a(n) + k)
                self.assertSame(a - k, lambda n: a(n) - k)
                self.assertSame(k - a, lambda n: k - a(n))
                self.assertSame(a * k, lambda n: a(n) * k)
                self.assertSame(k * a, lambda n: a(n) * k)
            for size in (Size(), N, Size([4, -3, 2])):
                self.assertSame(a + size, lambda n: a(n) + size(n))
                self.assertSame(size + a, lambda n: a(n) + size(n))
                self.assertSame(a - size, lambda n: a(n) - size(n))
                self.assertSame(size - a, lambda n: size(n) - a(n))
                self.assertSame(a * size, lambda n: a(n) * size(n))
                self.assertSame(size * a, lambda n: a(n) * size(n))

    def test_negative_and_absolute_values(self):
        for a in TALLIES + [Tally([(0, (N - 3) * (N - 9))]), Tally([(0, 7 - N), (5, N - FAR)])]:
            self.assertSame(-a, lambda n: -a(n))
            self.assertSame(abs(a), lambda n: abs(a(n)))

    def test_operands_stay(self):
        a, b = Tally([(0, 5), (2, N)]), Tally([(0, N - 4), (3, 1)])
        for act in (operator.add, operator.sub, operator.mul, operator.eq, operator.ne, operator.lt, operator.le,
                    operator.gt, operator.ge, lambda x, y: (-x, abs(y), x.lowest(), y.settles, y.last, x(3))):
            act(a, b)
            act(a, 3) if act in (operator.add, operator.le) else None
            self.assertSame(a, lambda n: 5 if n < 2 else n)
            self.assertSame(b, lambda n: n - 4 if n < 3 else 1)

    def test_other_kinds_are_no_numbers(self):
        for other in (None, "1", True, [1], Span()):
            for act in (operator.add, operator.sub, operator.mul, operator.lt, operator.ge):
                with self.assertRaises(TypeError):
                    act(TALLIES[3], other)


class ComparisonTest(TallyTestCase):
    def test_every_n_counts(self):
        for a, b in itertools.product(TALLIES, repeat=2):
            near = range(60)
            places = list(near) + [FAR - 2, FAR - 1, FAR, FAR + 1, FAR + 2, FARTHER, FARTHER ** 2]
            for act in (operator.lt, operator.le, operator.gt, operator.ge, operator.eq):
                self.assertEqual(act(a, b), all(act(a(n), b(n)) for n in places), (a.pieces, b.pieces, act))
            self.assertEqual(a != b, not a == b)

    def test_all_but_one_n(self):
        for n in (0, 1, 7, FAR, FARTHER):
            one = Tally.joined([(Span.single(n), -1)])
            self.assertEqual([one == Tally([(0, 0)]), one != Tally([(0, 0)]), one <= 0, one < 0, one >= 0, 0 <= one],
                             [False, True, True, False, False, False])
            bump = Tally.joined([(Span.single(n), N)], N + 1)
            self.assertEqual([bump > N, bump >= N, N < bump, N <= bump, bump <= N], [False, True, False, True, False])
            self.assertEqual([bump + 1 > N, bump - 1 <= N, bump - 2 < N], [True, True, True])

    def test_integers_and_sizes_on_one_side(self):
        for a in TALLIES:
            for other in (0, 5, -3, FAR, N, Size([4, -3, 2]), Size()):
                tally = Tally([(0, other)])
                for act in (operator.lt, operator.le, operator.gt, operator.ge):
                    self.assertEqual(act(a, other), act(a, tally))
                    self.assertEqual(act(other, a), act(tally, a))

    def test_pieces_that_say_the_same(self):
        for left, right in (([(0, 0), (1, N)], [(0, N)]), ([(0, 3), (1, 3), (9, 3)], [(0, 3)]),
                            ([(0, 1), (1, N), (2, 2), (3, N)], [(0, 1), (1, N)]),
                            ([(0, (N - 1) * (N - 2)), (1, 0), (3, N)], [(0, 2), (1, 0), (3, N)])):
            self.assertTrue(Tally(left) == Tally(right))
            self.assertFalse(Tally(left) != Tally(right))
            self.assertTrue(Tally(left) <= Tally(right) and not Tally(left) < Tally(right))

    def test_equal_to_tallies_only(self):
        five = Tally([(0, 5)])
        for other in (5, Size([5]), "5", None, (0, 5), [(0, 5)], Span.single(5)):
            self.assertFalse(five == other)
            self.assertFalse(other == five)
            self.assertTrue(five != other)
        self.assertEqual([5 <= five, five <= Size([5]), Size([5]) >= five, 5 < five], [True, True, True, False])


class SettlesTest(TallyTestCase):
    def test_examples(self):
        self.assertEqual([Tally([(0, 0), (1, N)]).settles, Tally([(0, 0), (1, N)]).last], [0, N])
        self.assertEqual([Tally([(0, N)]).settles, Tally([(0, N)]).last], [0, N])

    def test_settles(self):
        for pieces, settles, last in (
                ([(0, 5)], 0, Size([5])), ([(0, 5), (2, N)], 2, N), ([(0, 5), (5, N)], 5, N), ([(0, 5), (6, N)], 5, N),
                ([(0, 0), (1, 1), (2, 2), (9, N)], 9, N), ([(0, 0), (1, 1), (2, 2), (3, N)], 0, N),
                ([(0, N), (3, 3), (4, N)], 0, N), ([(0, N), (3, 4), (4, N)], 4, N), ([(0, N), (FAR, 0)], FAR, Size()),
                ([(0, 1), (4, N), (8, 2 * N), (12, N)], 12, N), ([(0, 12), (12, N), (13, N)], 12, N)):
            tally = Tally(pieces)
            self.assertEqual((tally.settles, tally.last), (settles, last), pieces)
            self.assertIs(type(tally.last), Size)

    def test_settles_by_going_back(self):
        rng = random.Random(2)
        for _ in range(200):
            lows = sorted(rng.sample(range(1, 25), rng.randrange(5)))
            tally = Tally([(low, rng.choice((N, N, Size([3]), 2 * N - 5, Size([0, 1, 2]) - N)))
                           for low in [0] + lows])
            least = max([n + 1 for n in range(30) if tally(n) != tally.last(n)], default=0)
            self.assertEqual(tally.settles, least)
            self.assertEqual(tally.last(FAR), tally(FAR))


class BoundsTest(TallyTestCase):
    def test_example(self):
        self.assertEqual(Tally([(0, 5), (2, N)]).lowest(), (2, 2))

    def test_bounds_against_all_values(self):
        rng = random.Random(3)
        sizes = (Size(), Size([4]), N, -N, N * N - 7 * N, 9 * N - N * N, (N - 3) * (N - 8) * (N - 11), 20 - 2 * N)
        for _ in range(300):
            lows = sorted(rng.sample(range(1, 25), rng.randrange(4)))
            tally = Tally([(low, rng.choice(sizes)) for low in [0] + lows])
            values = [tally(n) for n in range(60)]
            slope = tally(FAR + 1) - tally(FAR)
            for find, best in ((tally.lowest, min), (tally.highest, max)):
                if (slope < 0 and best is min) or (slope > 0 and best is max):
                    with self.assertRaises(NoBound):
                        find()
                else:
                    self.assertEqual(find(), (best(values), values.index(best(values))))

    def test_far_out(self):
        dip = (N - FAR) * (N - FAR)
        self.assertEqual(Tally([(0, dip)]).lowest(), (0, FAR))
        self.assertEqual(Tally([(0, 3), (FAR, dip - 7)]).lowest(), (-7, FAR))
        self.assertEqual(Tally([(0, 3), (FAR + 5, dip)]).lowest(), (3, 0))
        self.assertEqual(Tally([(0, -dip)]).highest(), (0, FAR))

    def test_the_least_n(self):
        self.assertEqual(Tally([(0, 4), (3, 2), (4, 9), (5, 2)]).lowest(), (2, 3))
        self.assertEqual(Tally([(0, 4), (3, 2), (4, 9), (5, 9)]).highest(), (9, 4))
        self.assertEqual(Tally([(0, 7)]).lowest(), (7, 0))
        self.assertEqual(Tally([(0, N * N - 5 * N)]).lowest(), (-6, 2))

    def test_no_bound(self):
        for tally, finds in ((Tally([(0, N)]), "highest"), (Tally([(0, -N)]), "lowest"),
                             (Tally([(0, -FARTHER), (9, N)]), "highest"), (Tally([(0, 1), (1, 5 - N * N)]), "lowest")):
            with self.assertRaises(NoBound):
                getattr(tally, finds)()


class WhereTest(TallyTestCase):
    def test_example(self):
        self.assertEqual(str(where(Size([0, 1, 2]), ">", 10 ** 60)), f"{10 ** 30 + 1}-")
        self.assertEqual(str(where(Size([0, 1, 2]), ">", 100)), "11-")

    def test_all_signs(self):
        things = [0, 5, FAR, N, Size([4, -3, 2]), Size()] + TALLIES
        for a, b in itertools.product(things, repeat=2):
            for sign, act in SIGNS.items():
                span = where(a, sign, b)
                self.assertIs(type(span), Span)
                for n in PLACES:
                    left, right = (x if isinstance(x, int) else x(n) for x in (a, b))
                    self.assertEqual(n in span, act(left, right), (n, sign))

    def test_stretches(self):
        self.assertEqual(str(where(Tally([(0, 5), (2, N)]), "==", 5)), "0-1, 5")
        self.assertEqual(str(where(N, "!=", 3)), "0-2, 4-")
        self.assertEqual(str(where(3, "==", 3)), "0-")
        self.assertEqual(str(where(3, "<", 3)), "none")
        self.assertEqual(str(where((N - 2) * (N - FAR), "<=", 0)), f"2-{FAR}")

    def test_wrong_arguments_from_left_to_right(self):
        for wrong in NO_INTEGERS + [Span()]:
            self.assertBadValue(wrong, where, wrong, "<", 1)
            self.assertBadValue(wrong, where, wrong, "=", None)
            self.assertBadValue(wrong, where, N, "<", wrong)
        for sign in ("=", "=<", "", "< ", "<>", None, 1, True, ["<"], ("<",), b"<"):
            self.assertBadValue(sign, where, 1, sign, 2)
            self.assertBadValue(sign, where, N, sign, None)


if __name__ == "__main__":
    unittest.main()
