"""Points [28], [31] to [35] and [14] for everyname/sizes.py."""

import itertools
import unittest

from everyname.errors import BadValue, NotExact
from everyname.sizes import Size

FAR = 10 ** 60
N = Size([0, 1])
PLACES = list(range(-7, 12)) + [FAR, -FAR, FAR + 1]
SAMPLES = [Size(row) for row in (
    (), (1,), (-3,), (0, 1), (-5, 2), (7, -3), (0, 0, 1), (4, -3, 2), (0, 1, 2), (-1, 0, 0, 1),
    (2, -7, 5, -1), (FAR,), (-FAR, 1), (3, 0, -FAR, 0, 4), (0, -1, -1, 3, 0, 1))]

WRONG = [None, True, False, "1", 1.0, (), [1], N, {}, b"a"]


def choose(n, k):
    """C(n, k) as the document defines it."""
    top, bottom = 1, 1
    for j in range(k):
        top *= n - j
        bottom *= j + 1
    assert top % bottom == 0
    return top // bottom


def worth(row, n):
    return sum(count * choose(n, k) for k, count in enumerate(row))


def sign(value):
    return (value > 0) - (value < 0)


def listed_signs(size, start, end):
    """The triples of signs, found by going through every n."""
    found = []
    for n in range(start, end + 1):
        now = sign(size(n))
        if found and found[-1][2] == now:
            found[-1] = (found[-1][0], n, now)
        else:
            found.append((n, n, now))
    return found


def roots(*places):
    """The size that is 0 at the given places alone."""
    found = Size([1])
    for place in places:
        found = found * (N - place)
    return found


class SizeTestCase(unittest.TestCase):
    def assertBadValue(self, shown, call, *given):
        with self.assertRaises(BadValue) as caught:
            call(*given)
        self.assertIs(type(caught.exception), BadValue)
        self.assertIs(caught.exception.shown, shown)

    def assertSame(self, size, value):
        """Check that a result is a size with the value value(n) at many places."""
        self.assertIs(type(size), Size)
        self.assertTrue(not size.row or size.row[-1] != 0)
        for n in PLACES:
            self.assertEqual(size(n), value(n))


class RowTest(SizeTestCase):
    def test_row_is_a_tuple_without_zeros_at_its_end(self):
        self.assertEqual(Size().row, ())
        self.assertEqual(Size([]).row, ())
        self.assertEqual(Size([0, 0]).row, ())
        self.assertEqual(Size([1, 0, 2, 0, 0]).row, (1, 0, 2))
        self.assertEqual(Size((0, 0, 3)).row, (0, 0, 3))
        self.assertIs(type(Size([1]).row), tuple)

    def test_degree(self):
        self.assertEqual([Size(row).degree for row in ((), (0,), (5,), (0, 1), (1, 2, 0, 0), (0, 0, 0, 1))],
                         [-1, -1, 0, 1, 1, 3])

    def test_value(self):
        for size in SAMPLES:
            for n in PLACES:
                self.assertEqual(size(n), worth(size.row, n))
        self.assertEqual(Size([0, 0, 0, 1])(-2), -4)
        self.assertEqual(Size([0, 1, 2])(10 ** 2000), 10 ** 4000)

    def test_difference_has_the_rest_of_the_row(self):
        for size in SAMPLES:
            self.assertEqual(((size << 1) - size).row, size.row[1:])

    def test_wrong_rows(self):
        for row in (None, 5, True, "12", "", {}, {1: 2}, range(3), N, iter([1]), [True], (1, False), [1, "2"],
                    [1.0], [None], [[1]], (1, (2,))):
            self.assertBadValue(row, Size, row)

    def test_wrong_places(self):
        for n in WRONG:
            self.assertBadValue(n, N, n)
            self.assertBadValue(n, Size(), n)

    def test_row_is_copied(self):
        row = [1, 2, 0]
        size = Size(row)
        row[0] = 9
        row.append(4)
        self.assertEqual(size.row, (1, 2))
        kept = [1, 0, 0]
        Size(kept)
        self.assertEqual(kept, [1, 0, 0])


class ThroughTest(SizeTestCase):
    def test_example(self):
        self.assertEqual(Size.through(1, [1, 4, 9]).row, (0, 1, 2))

    def test_no_values_and_zeros(self):
        self.assertEqual(Size.through(5, []).row, ())
        self.assertEqual(Size.through(-5, ()).row, ())
        self.assertEqual(Size.through(3, (0, 0, 0)).row, ())
        self.assertEqual(Size.through(FAR, [7]).row, (7,))

    def test_values_are_taken_with_the_least_degree(self):
        for start in (-FAR, -4, -1, 0, 1, 6, FAR):
            for values in ((1,), (1, 1), (0, 1), (1, 2, 3, 4), (5, -1, 7), (0, 0, 0, 1), (3, FAR, -FAR, 2, 9)):
                size = Size.through(start, values)
                self.assertEqual([size(start + k) for k in range(len(values))], list(values))
                self.assertLess(size.degree, len(values))
        self.assertEqual(Size.through(-3, [9, 4, 1, 0, 1, 4]).row, (0, 1, 2))
        self.assertEqual(Size.through(7, [5, 5, 5]).row, (5,))

    def test_sizes_come_back(self):
        for size in SAMPLES:
            for start in (-9, 0, 4, FAR):
                values = [size(start + k) for k in range(len(size.row) + 2)]
                self.assertEqual(Size.through(start, values), size)

    def test_wrong_arguments(self):
        for start in WRONG:
            self.assertBadValue(start, Size.through, start, [1])
            self.assertBadValue(start, Size.through, start, None)
        for values in (None, 3, "12", {}, range(2), iter([1]), [True], (1, False), [1, None], [[1]], N):
            self.assertBadValue(values, Size.through, 0, values)

    def test_values_stay(self):
        values = [1, 4, 9]
        size = Size.through(1, values)
        self.assertEqual(values, [1, 4, 9])
        values[0] = 7
        self.assertEqual(size.row, (0, 1, 2))


class FallingTest(SizeTestCase):
    def test_examples(self):
        self.assertEqual(Size.falling(2, 1).row, (2, -2, 2))
        self.assertEqual(Size.falling(0).row, (1,))
        self.assertEqual(Size.falling(0, 9).row, (1,))
        self.assertEqual(Size.falling(1), N)
        self.assertEqual(Size.falling(3).row, (0, 0, 0, 6))

    def test_values(self):
        for start in (-FAR, -3, -1, 0, 1, 2, 5, FAR):
            expected = Size([1])
            for many in range(6):
                size = Size.falling(many, start)
                self.assertEqual(size, expected)
                self.assertEqual(size.degree, many)
                self.assertEqual(Size.falling(many, start=start), size)
                expected = expected * (N - start - many)

    def test_wrong_arguments(self):
        for many in WRONG + [-1, -FAR]:
            self.assertBadValue(many, Size.falling, many)
            self.assertBadValue(many, Size.falling, many, None)
        for start in WRONG:
            self.assertBadValue(start, Size.falling, 2, start)
            self.assertBadValue(start, Size.falling, 0, start)


class OperatorsTest(SizeTestCase):
    def test_sums_differences_and_products_of_sizes(self):
        for a, b in itertools.product(SAMPLES, SAMPLES):
            rows = a.row, b.row
            self.assertSame(a + b, lambda n: a(n) + b(n))
            self.assertSame(a - b, lambda n: a(n) - b(n))
            self.assertSame(a * b, lambda n: a(n) * b(n))
            self.assertEqual((a.row, b.row), rows)

    def test_integers_on_either_side(self):
        for a in SAMPLES:
            for k in (0, 1, -1, 5, FAR, -FAR):
                self.assertSame(a + k, lambda n: a(n) + k)
                self.assertSame(k + a, lambda n: k + a(n))
                self.assertSame(a - k, lambda n: a(n) - k)
                self.assertSame(k - a, lambda n: k - a(n))
                self.assertSame(a * k, lambda n: a(n) * k)
                self.assertSame(k * a, lambda n: k * a(n))

    def test_negative(self):
        for a in SAMPLES:
            self.assertSame(-a, lambda n: -a(n))

    def test_in_place_signs_make_new_sizes(self):
        a = b = Size([1, 2])
        a += b
        a *= 3
        a -= 1
        self.assertEqual((a.row, b.row), ((5, 12), (1, 2)))

    def test_powers(self):
        for a in SAMPLES:
            for many in range(6):
                row = a.row
                self.assertSame(a ** many, lambda n: a(n) ** many)
                self.assertEqual(a.row, row)
        self.assertEqual((Size() ** 0).row, (1,))
        self.assertEqual((N ** 2).row, (0, 1, 2))

    def test_great_powers(self):
        self.assertEqual((Size([2]) ** 13000).row, (2 ** 13000,))
        self.assertEqual((Size() ** FAR).row, ())
        self.assertEqual((Size([1]) ** FAR).row, (1,))
        self.assertEqual((Size([-1]) ** (FAR + 1)).row, (-1,))
        self.assertEqual((N ** 40)(3), 3 ** 40)

    def test_wrong_powers(self):
        for many in WRONG + [-1, -FAR]:
            self.assertBadValue(many, lambda: N ** many)

    def test_shifts(self):
        self.assertEqual(Size([0, 0, 1]) >> 1, Size([1, -1, 1]))
        for a in SAMPLES:
            for k in (0, 1, 2, 7, -1, -6, FAR, -FAR):
                row = a.row
                self.assertSame(a >> k, lambda n: a(n - k))
                self.assertSame(a << k, lambda n: a(n + k))
                self.assertEqual(a.row, row)

    def test_wrong_shifts(self):
        for k in WRONG:
            self.assertBadValue(k, lambda: N >> k)
            self.assertBadValue(k, lambda: Size() << k)

    def test_quotients(self):
        self.assertEqual(Size([0, 2, 4]) // 2, Size([0, 1, 2]))
        self.assertEqual((Size([0, 2, 4]) // -2).row, (0, -1, -2))
        for a in SAMPLES:
            for k in (1, -1, 2, -7, FAR, -FAR):
                product = a * k
                self.assertEqual(product // k, a)
                self.assertEqual(product, a * k)
        # n * n + n is even at every n, so it has a half, which is no size with integer coefficients.
        self.assertEqual(((N * N + N) // 2).row, (0, 1, 1))

    def test_quotients_that_do_not_exist(self):
        for row, k in (((0, 2, 3), 2), ((1,), 2), ((1,), -FAR), ((2, 1), 2), ((4, 2, 6), -4), ((6, 3), 4)):
            with self.assertRaises(NotExact) as caught:
                Size(row) // k
            self.assertEqual(caught.exception.by, k)

    def test_wrong_divisors(self):
        for k in WRONG + [0]:
            self.assertBadValue(k, lambda: Size([2]) // k)
            self.assertBadValue(k, lambda: Size() // k)


class ComparisonsTest(SizeTestCase):
    def signs_of(self, a, b):
        return [a < b, a <= b, a == b, a != b, a >= b, a > b]

    def test_examples(self):
        square = N * N
        self.assertTrue(N <= square)
        self.assertFalse(N < square)
        self.assertFalse(N <= 5)
        self.assertFalse(5 <= N)
        self.assertFalse(Size([5]) == 5)
        self.assertFalse(5 == Size([5]))
        self.assertTrue(Size([5]) != 5)
        self.assertTrue(5 <= Size([5]))

    def test_every_n_from_0_on_counts(self):
        for a, b in itertools.product(SAMPLES, SAMPLES):
            row = (a - b).row
            # The samples have no sign that changes between these places.
            values = [worth(row, n) for n in itertools.chain(range(60), (FAR - 1, FAR, FAR + 1, FAR ** 2, FAR ** 3))]
            expected = [all(v < 0 for v in values), all(v <= 0 for v in values), not any(values), any(values),
                        all(v >= 0 for v in values), all(v > 0 for v in values)]
            self.assertEqual(self.signs_of(a, b), expected, (a.row, b.row))

    def test_values_below_0_do_not_count(self):
        self.assertEqual(self.signs_of(N, Size()), [False, False, False, True, True, False])
        self.assertEqual(self.signs_of(N + 1, Size()), [False, False, False, True, True, True])

    def test_one_n_alone_decides(self):
        for place in (0, 1, 7, FAR):
            touching = roots(place, place)
            self.assertEqual(self.signs_of(touching, Size()), [False, False, False, True, True, False])
            self.assertEqual(self.signs_of(touching + 1, Size()), [False, False, False, True, True, True])
            self.assertEqual(self.signs_of(touching - 1, Size()), [False, False, False, True, False, False])
            self.assertEqual(self.signs_of(-touching, Size()), [False, True, False, True, False, False])
            self.assertEqual(self.signs_of(-touching - 1, Size()), [True, True, False, True, False, False])

    def test_integers_in_the_place_of_one_side(self):
        for a in SAMPLES + [N + 5, roots(3, 3) + 5, Size([5])]:
            for k in (0, 5, -5, FAR):
                size = Size([k])
                self.assertEqual([a < k, a <= k, a >= k, a > k], [a < size, a <= size, a >= size, a > size])
                self.assertEqual([k < a, k <= a, k >= a, k > a], [size < a, size <= a, size >= a, size > a])

    def test_equality(self):
        for a, b in itertools.product(SAMPLES, SAMPLES):
            self.assertEqual(a == b, a.row == b.row)
            self.assertEqual(a != b, a.row != b.row)
        self.assertEqual(Size([1, 0]), Size((1,)))
        for other in WRONG[:-4] + [(0, 1), [0, 1], object()]:
            self.assertFalse(N == other)
            self.assertTrue(N != other)
            self.assertFalse(other == N)

    def test_operands_stay(self):
        a, b = Size([3, 1]), Size([0, 0, 1])
        self.signs_of(a, b)
        self.assertEqual((a.row, b.row), ((3, 1), (0, 0, 1)))


class Other:
    """Something that answers when it stands on the right of a sign."""

    def answer(self, other):
        return "asked"

    __radd__ = __rsub__ = __rmul__ = __lt__ = __le__ = __gt__ = __ge__ = answer


class OtherKindsTest(SizeTestCase):
    """What these signs do with another kind is open; here the other side is asked, as it is for integers."""

    def test_the_other_side_is_asked(self):
        a, b = N, Other()
        self.assertEqual([a + b, a - b, a * b, a < b, a <= b, a > b, a >= b], ["asked"] * 7)

    def test_nobody_answers(self):
        for other in ("1", None, True, 1.5, [1]):
            for call in (lambda: N + other, lambda: other + N, lambda: N - other, lambda: other - N, lambda: N * other,
                         lambda: N < other, lambda: N <= other, lambda: N > other, lambda: other >= N):
                with self.assertRaises(TypeError):
                    call()


class SignsTest(SizeTestCase):
    def assertSigns(self, size, end):
        """Compare with a list that goes through every n to end, where the last sign has begun."""
        row = size.row
        found = size.signs()
        expected = listed_signs(size, 0, end)
        self.assertEqual(found, expected[:-1] + [(expected[-1][0], None, expected[-1][2])], row)
        for start in (0, 1, 2, 5, 9, end):
            for last in (start, start + 1, start + 6, end):
                self.assertEqual(size.signs(start, last), listed_signs(size, start, last), row)
            self.assertEqual(size.signs(start, end=None)[-1], (max(start, found[-1][0]), None, found[-1][2]))
        self.assertEqual(size.row, row)

    def test_example(self):
        self.assertEqual(Size([-5, 2]).signs(), [(0, 2, -1), (3, None, 1)])

    def test_the_same_sign_everywhere(self):
        self.assertEqual(Size().signs(), [(0, None, 0)])
        self.assertEqual(Size().signs(7, 7), [(7, 7, 0)])
        self.assertEqual(Size().signs(FAR, 2 * FAR), [(FAR, 2 * FAR, 0)])
        self.assertEqual(Size([3]).signs(), [(0, None, 1)])
        self.assertEqual(Size([-3]).signs(4), [(4, None, -1)])
        self.assertEqual(Size([-3]).signs(4, 9), [(4, 9, -1)])
        self.assertEqual((N * N + 1).signs(), [(0, None, 1)])

    def test_all_small_rows(self):
        for row in itertools.product(range(-3, 4), repeat=4):
            self.assertSigns(Size(row), 40)

    def test_roots_that_are_whole(self):
        for many in range(1, 5):
            for places in itertools.combinations_with_replacement((0, 1, 2, 4, 5, 9), many):
                self.assertSigns(roots(*places), 15)
                self.assertSigns(-roots(*places), 15)

    def test_roots_between_whole_numbers(self):
        for pair in itertools.combinations_with_replacement((1, 3, 4, 9, 10, 11, 16), 3):
            size = Size([1])
            for place in pair:
                size = size * (3 * N - place)
            self.assertSigns(size, 15)
        # Both roots stand between the same two whole numbers: the sign never changes.
        self.assertEqual(((3 * N - 16) * (3 * N - 17)).signs(), [(0, None, 1)])

    def test_touching_without_a_change(self):
        self.assertEqual(roots(6, 6).signs(), [(0, 5, 1), (6, 6, 0), (7, None, 1)])
        self.assertEqual((-roots(0, 0)).signs(), [(0, 0, 0), (1, None, -1)])
        self.assertEqual(roots(FAR, FAR).signs(), [(0, FAR - 1, 1), (FAR, FAR, 0), (FAR + 1, None, 1)])
        self.assertEqual(roots(2, 3).signs(), [(0, 1, 1), (2, 3, 0), (4, None, 1)])

    def test_far_out(self):
        self.assertEqual((N - FAR).signs(), [(0, FAR - 1, -1), (FAR, FAR, 0), (FAR + 1, None, 1)])
        self.assertEqual((2 * N - 2 * FAR + 1).signs(), [(0, FAR - 1, -1), (FAR, None, 1)])
        self.assertEqual(roots(3, FAR, FAR + 2).signs(), [
            (0, 2, -1), (3, 3, 0), (4, FAR - 1, 1), (FAR, FAR, 0), (FAR + 1, FAR + 1, -1), (FAR + 2, FAR + 2, 0),
            (FAR + 3, None, 1)])
        self.assertEqual((roots(FAR, 2 * FAR) * 4 - 1).signs(), [
            (0, FAR - 1, 1), (FAR, 2 * FAR, -1), (2 * FAR + 1, None, 1)])
        self.assertEqual(roots(FAR, 2 * FAR).signs(FAR + 1, 2 * FAR - 1), [(FAR + 1, 2 * FAR - 1, -1)])
        self.assertEqual((N * N - FAR ** 2 + 1).signs(), [(0, FAR - 1, -1), (FAR, None, 1)])

    def test_numbers_of_four_thousand_digits(self):
        far = 10 ** 3999
        self.assertEqual((N - far).signs(), [(0, far - 1, -1), (far, far, 0), (far + 1, None, 1)])
        self.assertEqual((N - far).signs(far + 5, far + 6), [(far + 5, far + 6, 1)])
        places = [k * 10 ** 999 + k for k in range(1, 5)]
        triples = roots(*places).signs()
        self.assertEqual([low for low, high, now in triples if now == 0], places)
        self.assertEqual([now for low, high, now in triples], [1, 0, -1, 0, 1, 0, -1, 0, 1])
        near = 10 ** 570
        self.assertEqual(roots(*[near] * 7).signs(), [(0, near - 1, -1), (near, near, 0), (near + 1, None, 1)])

    def test_a_new_list_each_time(self):
        size = Size([-5, 2])
        size.signs().append(1)
        self.assertEqual(size.signs(), [(0, 2, -1), (3, None, 1)])
        self.assertIs(type(size.signs(0, 4)), list)

    def test_wrong_arguments(self):
        for start in WRONG + [-1, -FAR]:
            self.assertBadValue(start, N.signs, start)
            self.assertBadValue(start, N.signs, start, "end")
        for end in [wrong for wrong in WRONG if wrong is not None] + [4, 0, -1]:
            self.assertBadValue(end, N.signs, 5, end)


class LeastFromTest(SizeTestCase):
    def test_examples(self):
        size = N * N - 4 * N
        self.assertEqual(size.least_from(0), 4)
        self.assertEqual(size.least_from(-4), 0)
        self.assertEqual(size.least_from(-3), 3)

    def test_small_rows(self):
        for row in itertools.product(range(-3, 4), repeat=3):
            size = Size(row)
            values = [size(n) for n in range(60)]
            for value in (-9, -2, -1, 0, 1, 2, 8):
                below = [n for n in range(60) if values[n] < value]
                last = below[-1] if below else -1
                self.assertEqual(size.least_from(value), None if last == 59 else last + 1)
            self.assertEqual(size.row, Size(row).row)

    def test_constants(self):
        self.assertEqual([Size([5]).least_from(k) for k in (4, 5, 6)], [0, 0, None])
        self.assertEqual([Size().least_from(k) for k in (-1, 0, 1)], [0, 0, None])

    def test_no_such_n(self):
        self.assertIsNone((-N).least_from(0))
        self.assertIsNone((100 - N).least_from(-FAR))

    def test_far_out(self):
        self.assertEqual(N.least_from(FAR), FAR)
        self.assertEqual((2 * N).least_from(2 * FAR - 1), FAR)
        self.assertEqual(roots(FAR, FAR + 5).least_from(0), FAR + 5)
        self.assertEqual(roots(FAR, FAR).least_from(1), FAR + 1)
        self.assertEqual(roots(FAR, FAR).least_from(0), 0)
        self.assertEqual((N ** 2).least_from(10 ** 3998 + 1), 10 ** 1999 + 1)

    def test_wrong_values(self):
        for value in WRONG:
            self.assertBadValue(value, N.least_from, value)


if __name__ == "__main__":
    unittest.main()
