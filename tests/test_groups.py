"""Point [73] for everyname/groups.py."""

import itertools
import unittest

from everyname.groups import compose, conjugate, generated, inverse
from helpers import RaisingTestCase

WRONG = (None, 3, "01", [0, 1], (0, 2), (1, 2), (0, 0), (0, -1), (0, True), (False, 1), ("0",), (0, (1,)), (1.0, 0), {0: 0})


def every(size):
    return list(itertools.permutations(range(size)))


def groups(size):
    """All groups of a size, as results of generated."""
    return sorted({generated(size, rows) for rows in itertools.product(every(size), repeat=2)})


class GroupsTest(RaisingTestCase):
    def test_compose(self):
        self.assertEqual(compose((1, 0, 2), (0, 2, 1)), (1, 2, 0))
        self.assertEqual(compose((), ()), ())
        for size in range(5):
            for p, q in itertools.product(every(size), repeat=2):
                self.assertEqual(compose(p, q), tuple(p[q[i]] for i in range(size)))

    def test_inverse(self):
        self.assertEqual(inverse((1, 2, 0)), (2, 0, 1))
        for size in range(5):
            for p in every(size):
                self.assertEqual(compose(p, inverse(p)), tuple(range(size)))
                self.assertEqual(compose(inverse(p), p), tuple(range(size)))

    def test_generated(self):
        self.assertEqual(generated(0, ()), ((),))
        self.assertEqual(generated(0, ((),)), ((),))
        self.assertEqual(generated(3, ()), ((0, 1, 2),))
        self.assertEqual(generated(3, ((1, 2, 0),)), ((0, 1, 2), (1, 2, 0), (2, 0, 1)))
        self.assertEqual(generated(4, ((1, 0, 2, 3), (1, 2, 3, 0))), tuple(every(4)))
        self.assertEqual(generated(4, ((1, 2, 3, 0), (2, 1, 0, 3))), tuple(sorted(generated(4, ((1, 2, 3, 0), (2, 1, 0, 3))))))
        self.assertEqual([len(groups(size)) for size in range(5)], [1, 1, 2, 6, 30])
        for size in range(5):
            for group in groups(size):
                self.assertEqual(group, tuple(sorted(group)))
                self.assertEqual({compose(p, q) for p in group for q in group}, set(group))

    def test_conjugate(self):
        self.assertEqual(conjugate(((0, 1, 2), (0, 2, 1)), ((0, 1, 2), (1, 0, 2))), (2, 0, 1))
        for size in range(4):
            for first, second in itertools.product(groups(size), repeat=2):
                fitting = [c for c in every(size)
                           if {compose(compose(c, p), inverse(c)) for p in first} == set(second)]
                self.assertEqual(conjugate(first, second), min(fitting) if fitting else None)
        for first, second in itertools.product(groups(4)[::3], repeat=2):
            fitting = [c for c in every(4) if {compose(compose(c, p), inverse(c)) for p in first} == set(second)]
            self.assertEqual(conjugate(first, second), min(fitting) if fitting else None)

    def test_longer_renumberings(self):
        p = tuple(range(1, 12)) + (0,)
        self.assertEqual(len(generated(12, (p,))), 12)
        self.assertEqual(generated(12, (p,)), tuple(sorted(generated(12, (p,)))))
        self.assertEqual(inverse(p), (11,) + tuple(range(11)))

    def test_wrong_renumberings(self):
        for row in WRONG:
            self.assertRaisesJust("BadRenumbering", row, inverse, row)
            self.assertRaisesJust("BadRenumbering", row, compose, row, (0, 1))
            self.assertRaisesJust("BadRenumbering", row, compose, (0, 1), row)
            self.assertRaisesJust("BadRenumbering", row, generated, 2, ((1, 0), row, (0,)))
        self.assertRaisesJust("BadRenumbering", (0, 1), compose, (0, 1, 2), (0, 1))
        self.assertRaisesJust("BadRenumbering", (), compose, (0,), ())
        self.assertRaisesJust("BadRenumbering", (0, 1, 2), generated, 2, ((0, 1, 2), (0, 0)))

    def test_the_first_wrong_argument_is_shown(self):
        for first, second in itertools.product(WRONG, repeat=2):
            self.assertRaisesJust("BadRenumbering", first, compose, first, second)
            self.assertRaisesJust("BadRenumbering", first, generated, 2, (first, second))

    def test_what_is_passed_stays(self):
        rows = ((1, 0, 2), (0, 2, 1))
        generated(3, rows), compose(*rows), conjugate(generated(3, rows), generated(3, rows))
        self.assertEqual(rows, ((1, 0, 2), (0, 2, 1)))


if __name__ == "__main__":
    unittest.main()
