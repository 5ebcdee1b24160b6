"""Points [29], [31], [32], [36] to [38] and [14] for everyname/spans.py."""

import itertools
import random
import unittest

from everyname.errors import BadValue, EmptySpan
from everyname.sizes import Size
from everyname.spans import Span

FAR = 10 ** 60
# Beyond this number the spans made of small stretches do not change any more.
EDGE = 14
WRONG = [None, True, False, "1", 1.0, (), [1], {}, b"a", Span()]


def small_spans():
    """Every span whose stretches begin and end at a few small numbers, with and without an end."""
    found = []
    for many in range(0, 6):
        for turns in itertools.combinations((0, 1, 2, 4, 5, 6, 9), many):
            pairs = [(turns[k], turns[k + 1] - 1 if k + 1 < many else None) for k in range(0, many, 2)]
            found.append(Span(pairs))
    return found


def members(span, edge=EDGE):
    """The members up to edge, told by the stretches and not by the operators under test."""
    return {n for n in range(edge + 1) for low, high in span.stretches if low <= n and (high is None or n <= high)}


SMALL = small_spans()
SOME = SMALL[::5]


class SpanTestCase(unittest.TestCase):
    def assertBadValue(self, shown, call, *given):
        with self.assertRaises(BadValue) as caught:
            call(*given)
        self.assertIs(type(caught.exception), BadValue)
        self.assertIs(caught.exception.shown, shown)

    def assertOneForm(self, span):
        """Check that the stretches ascend and neither overlap nor touch."""
        self.assertIs(type(span), Span)
        self.assertIs(type(span.stretches), tuple)
        before = None
        for pair in span.stretches:
            self.assertIs(type(pair), tuple)
            low, high = pair
            self.assertIs(type(low), int)
            self.assertTrue(high is None or high >= low)
            if before is None:
                self.assertGreaterEqual(low, 0)
            else:
                self.assertGreater(low, before[1] + 1)
            before = pair

    def assertMembers(self, span, expected):
        self.assertOneForm(span)
        self.assertEqual(members(span), expected)


class MakingTest(SpanTestCase):
    def test_one_form(self):
        for given, stretches in (
                ([], ()),
                ((), ()),
                ([(0, 3), (4, 6)], ((0, 6),)),
                ([(4, 6), (0, 3)], ((0, 6),)),
                (((0, 3), (5, 6)), ((0, 3), (5, 6))),
                ([(5, 6), (0, 3)], ((0, 3), (5, 6))),
                ([(0, 9), (2, 3)], ((0, 9),)),
                ([(2, 3), (0, 9), (2, 3)], ((0, 9),)),
                ([(2, 5), (4, 8)], ((2, 8),)),
                ([(3, None), (0, 1)], ((0, 1), (3, None))),
                ([(3, None), (0, 2)], ((0, None),)),
                ([(3, None), (7, 9), (5, None)], ((3, None),)),
                ([(4, 4), (4, 4)], ((4, 4),)),
                ([(FAR, FAR + 1), (FAR + 2, None)], ((FAR, None),)),
                ([(FAR, 2 * FAR), (0, FAR - 2)], ((0, FAR - 2), (FAR, 2 * FAR)))):
            self.assertEqual(Span(given).stretches, stretches)
        self.assertEqual(Span().stretches, ())

    def test_random_stretches(self):
        source = random.Random(7)
        for _ in range(300):
            pairs = []
            for _ in range(source.randrange(7)):
                low = source.randrange(12)
                pairs.append((low, source.choice([low, low + source.randrange(3), min(low + 4, 12), None])))
            expected = {n for n in range(EDGE + 1) for low, high in pairs if low <= n and (high is None or n <= high)}
            self.assertMembers(Span(pairs), expected)
            self.assertMembers(Span(tuple(pairs)), expected)

    def test_makers(self):
        self.assertEqual(Span.single(0).stretches, ((0, 0),))
        self.assertEqual(Span.single(FAR).stretches, ((FAR, FAR),))
        self.assertEqual(Span.since(0).stretches, ((0, None),))
        self.assertEqual(Span.since(FAR).stretches, ((FAR, None),))
        self.assertEqual(Span.until(0).stretches, ((0, 0),))
        self.assertEqual(Span.until(FAR).stretches, ((0, FAR),))

    def test_wrong_numbers_for_makers(self):
        for maker in (Span.single, Span.since, Span.until):
            for n in WRONG + [-1, -FAR]:
                self.assertBadValue(n, maker, n)

    def test_no_list_or_tuple(self):
        for stretches in (None, 3, True, "ab", "", {}, {(0, 1): 2}, iter([(0, 1)]), range(0), Span()):
            self.assertBadValue(stretches, Span, stretches)

    def test_first_wrong_pair_is_shown(self):
        for wrong in (None, 3, True, "ab", [0, 3], [], (), (1,), (0, 1, 2), (-1, 3), (3, 2), (0, -1), (True, 3),
                      (0, True), (False, None), (0, False), ("0", 3), (0, "3"), (None, None), (None, 3), (0, 1.0),
                      (1.0, 2), (FAR, FAR - 1), ((0, 1), 2)):
            for at in range(4):
                stretches = [(0, 0), (4, None), (7, 9)]
                stretches.insert(at, wrong)
                stretches.append([9, 9])
                self.assertBadValue(wrong, Span, stretches)
                self.assertBadValue(wrong, Span, tuple(stretches))

    def test_stretches_are_copied(self):
        given = [(4, 6), (0, 3)]
        span = Span(given)
        self.assertEqual(given, [(4, 6), (0, 3)])
        given.append((9, 9))
        self.assertEqual(span.stretches, ((0, 6),))


class OperatorsTest(SpanTestCase):
    def test_two_spans(self):
        for a, b in itertools.product(SMALL, SOME):
            kept = a.stretches, b.stretches
            self.assertMembers(a | b, members(a) | members(b))
            self.assertMembers(a & b, members(a) & members(b))
            self.assertMembers(a - b, members(a) - members(b))
            self.assertMembers(a ^ b, members(a) ^ members(b))
            self.assertEqual((a.stretches, b.stretches), kept)

    def test_a_span_with_itself(self):
        for a in SMALL:
            self.assertEqual([a | a, a & a, a - a, a ^ a], [a, a, Span(), Span()])

    def test_outside(self):
        for a in SMALL:
            kept = a.stretches
            self.assertMembers(~a, set(range(EDGE + 1)) - members(a))
            self.assertEqual(~~a, a)
            self.assertEqual(a.stretches, kept)
        self.assertEqual(str(~Span([(4, 4), (0, 1)])), "2-3, 5-")
        self.assertEqual((~Span()).stretches, ((0, None),))
        self.assertEqual((~Span.since(0)).stretches, ())

    def test_far_out(self):
        a, b = Span.until(FAR), Span.since(FAR)
        self.assertEqual((a & b).stretches, ((FAR, FAR),))
        self.assertEqual((a | b).stretches, ((0, None),))
        self.assertEqual((a - b).stretches, ((0, FAR - 1),))
        self.assertEqual((a ^ b).stretches, ((0, FAR - 1), (FAR + 1, None)))

    def test_changes_in_place(self):
        for a, b in itertools.product(SMALL, SOME):
            for change, expected in ((Span.__ior__, a | b), (Span.__iand__, a & b), (Span.__isub__, a - b)):
                changed = Span(a.stretches)
                kept = b.stretches
                self.assertIs(change(changed, b), changed)
                self.assertEqual(changed, expected)
                self.assertOneForm(changed)
                self.assertEqual(b.stretches, kept)

    def test_other_names_see_the_change(self):
        a = name = Span.until(5)
        a |= Span.single(8)
        self.assertEqual(str(name), "0-5, 8")
        a &= Span.since(3)
        self.assertEqual(str(name), "3-5, 8")
        a -= Span.single(4)
        self.assertEqual(str(name), "3, 5, 8")
        self.assertIs(a, name)

    def test_spans_that_were_made_before_stay(self):
        a = Span.until(5)
        made = [a | Span(), a & a, a - Span(), a ^ Span(), ~~a, a >> 0, a << 0, Span(a.stretches)]
        stretches = a.stretches
        a |= Span.since(9)
        a -= Span.single(0)
        a &= Span.since(3)
        self.assertEqual([span.stretches for span in made], [((0, 5),)] * len(made))
        self.assertEqual(stretches, ((0, 5),))

    def test_changes_with_itself(self):
        for span in SMALL:
            a = name = Span(span.stretches)
            a |= a
            self.assertEqual(name, span)
            a &= a
            self.assertEqual(name, span)
            a -= a
            self.assertEqual(name.stretches, ())

    def test_the_other_operators_make_new_spans(self):
        a = name = Span.until(5)
        a ^= Span.single(3)
        self.assertEqual((str(a), str(name)), ("0-2, 4-5", "0-5"))
        a >>= 1
        self.assertEqual((str(a), str(name)), ("1-3, 5-6", "0-5"))

    def test_shifts(self):
        for a in SMALL:
            for k in (0, 1, 2, 3, 9, -1, -2, -5, -20):
                kept = a.stretches
                self.assertOneForm(a >> k)
                wide = members(a, EDGE + 20)
                self.assertEqual(members(a >> k), {n + k for n in wide if 0 <= n + k <= EDGE})
                self.assertEqual(a << -k, a >> k)
                self.assertEqual(a.stretches, kept)

    def test_far_shifts(self):
        a = Span([(0, 0), (3, 5), (7, None)])
        self.assertEqual((a >> FAR).stretches, ((FAR, FAR), (FAR + 3, FAR + 5), (FAR + 7, None)))
        self.assertEqual((a >> FAR) << FAR, a)
        self.assertEqual((a << FAR).stretches, ((0, None),))
        self.assertEqual((a << 4).stretches, ((0, 1), (3, None)))
        self.assertEqual((a >> -5).stretches, ((0, 0), (2, None)))
        self.assertEqual((Span.until(FAR) << (FAR + 1)).stretches, ())
        self.assertEqual((Span.until(FAR) << FAR).stretches, ((0, 0),))

    def test_wrong_shifts(self):
        for k in WRONG:
            self.assertBadValue(k, lambda: Span.until(3) >> k)
            self.assertBadValue(k, lambda: Span() << k)

    def test_in(self):
        for a in SMALL:
            self.assertEqual({n for n in range(EDGE + 1) if n in a}, members(a))
            self.assertNotIn(-1, a)
        self.assertIn(FAR, Span.since(FAR))
        self.assertNotIn(FAR, Span.since(FAR + 1))
        self.assertIn(FAR, Span.until(FAR))
        self.assertNotIn(FAR + 1, Span.until(FAR))

    def test_what_is_no_integer_is_not_in_a_span(self):
        for x in WRONG + [Size([1]), object(), (0, 5), 0.0]:
            self.assertIs(x in Span.since(0), False)
        self.assertIs(1 in Span.since(0), True)

    def test_bool(self):
        self.assertIs(bool(Span()), False)
        for a in SMALL:
            self.assertIs(bool(a), bool(a.stretches))


class ComparisonsTest(SpanTestCase):
    def test_two_spans(self):
        for a, b in itertools.product(SMALL, SOME):
            left, right = members(a), members(b)
            kept = a.stretches, b.stretches
            self.assertEqual([a == b, a != b, a <= b, a < b, a >= b, a > b],
                             [left == right, left != right, left <= right, left < right, left >= right, left > right])
            self.assertEqual((a.stretches, b.stretches), kept)

    def test_one_number_alone_decides(self):
        every = Span.since(0)
        for n in (0, 1, 7, FAR):
            rest = every - Span.single(n)
            self.assertEqual([every <= rest, rest <= every, rest < every, every > rest, rest == every],
                             [False, True, True, True, False])

    def test_every_way_to_the_same_span_is_equal(self):
        self.assertEqual(Span([(4, 6), (0, 3)]), Span.until(6))
        self.assertFalse(Span([(4, 6), (0, 3)]) != Span.until(6))
        self.assertEqual(Span.single(3) | Span.since(4), Span.since(3))

    def test_a_span_is_equal_to_a_span_only(self):
        for other in (None, 0, (), [], ((0, 5),), "0-5", True, {0, 1, 2, 3, 4, 5}, Size([5])):
            self.assertFalse(Span.until(5) == other)
            self.assertTrue(Span.until(5) != other)
            self.assertFalse(other == Span())


class Other:
    """Something that answers when it stands on the right of a sign."""

    def answer(self, other):
        return "asked"

    __ror__ = __rand__ = __rsub__ = __rxor__ = __lt__ = __le__ = __gt__ = __ge__ = answer


class OtherKindsTest(SpanTestCase):
    """What these signs do with another kind is open; here the other side is asked."""

    def test_the_other_side_is_asked(self):
        a, b = Span.until(3), Other()
        self.assertEqual([a | b, a & b, a - b, a ^ b, a < b, a <= b, a > b, a >= b], ["asked"] * 8)

    def test_nobody_answers(self):
        for other in (3, None, True, (0, 3), [(0, 3)], {3}):
            a = Span.until(3)
            for call in (a.__or__, a.__and__, a.__sub__, a.__xor__, a.__ior__, a.__iand__, a.__isub__,
                         a.__lt__, a.__le__, a.__gt__, a.__ge__):
                self.assertIs(call(other), NotImplemented)
            self.assertEqual(str(a), "0-3")


class QuestionsTest(SpanTestCase):
    def test_least_and_greatest(self):
        for a in SMALL:
            if a.stretches:
                self.assertEqual(a.least(), min(members(a)))
                expected = None if EDGE in members(a) else max(members(a))
                self.assertEqual(a.greatest(), expected)
        self.assertEqual(Span([(FAR, 2 * FAR), (5, 6)]).least(), 5)
        self.assertEqual(Span([(FAR, 2 * FAR), (5, 6)]).greatest(), 2 * FAR)

    def test_empty_spans_have_neither(self):
        for empty in (Span(), Span.until(4) - Span.until(4), ~Span.since(0)):
            for call in (empty.least, empty.greatest):
                with self.assertRaises(EmptySpan):
                    call()

    def test_many(self):
        for a in SMALL:
            expected = None if EDGE in members(a) else len(members(a))
            self.assertEqual(a.many(), expected)
        self.assertEqual(Span().many(), 0)
        self.assertEqual(Span([(1, FAR), (2 * FAR, 3 * FAR)]).many(), 2 * FAR + 1)
        self.assertIsNone(Span([(1, 2), (FAR, None)]).many())

    def test_after(self):
        for a in SMALL:
            for n in range(-3, EDGE - 1):
                later = [m for m in members(a) if m > n]
                self.assertEqual(a.after(n), min(later) if later else None)
        self.assertEqual(Span.since(4).after(FAR), FAR + 1)
        self.assertEqual(Span.since(FAR).after(-FAR), FAR)
        self.assertIsNone(Span.until(FAR).after(FAR))
        self.assertEqual(Span.until(FAR).after(FAR - 1), FAR)
        self.assertEqual(Span([(2, 3), (FAR, FAR)]).after(3), FAR)
        self.assertIsNone(Span().after(0))

    def test_wrong_numbers_for_after(self):
        for n in WRONG:
            self.assertBadValue(n, Span.until(3).after, n)
            self.assertBadValue(n, Span().after, n)

    def test_text(self):
        for stretches, text in (
                ((), "none"),
                (((4, 4),), "4"),
                (((4, 9),), "4-9"),
                (((4, None),), "4-"),
                (((0, 0),), "0"),
                (((0, None),), "0-"),
                (((9, 9), (2, 3), (11, None)), "2-3, 9, 11-"),
                (((FAR, FAR + 1),), f"{FAR}-{FAR + 1}")):
            self.assertEqual(str(Span(stretches)), text)
        far = 10 ** 3999
        self.assertEqual(str(Span.since(far)), f"1{'0' * 3999}-")

    def test_questions_change_nothing(self):
        a = Span([(2, 3), (6, None)])
        a.least(), a.greatest(), a.many(), a.after(3), str(a), bool(a), 3 in a
        self.assertEqual(a.stretches, ((2, 3), (6, None)))


if __name__ == "__main__":
    unittest.main()
