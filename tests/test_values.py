"""Points [3], [5], [25] to [27] and [14] for everyname/values.py."""

import itertools
import random
import unittest

import plain
from everyname.errors import BadValue
from everyname.values import members_of, others_in, renumbered, same_value, value_text

ANN, BOB = ("known", "ann"), ("known", "bob")
MARK = ("mark", "ann")
ROW, SET = ("row", ()), ("set", ())
ONE, TWO, TEN = ("other", 1), ("other", 2), ("other", 10)
FAR = 10 ** 300

# Values of which no two are equal, with their texts.
TEXTS = {
    ANN: "ann", BOB: "bob", MARK: "'ann'", ("mark", "all"): "'all'", ROW: "[]", SET: "{}", ONE: "#1", TWO: "#2",
    TEN: "#10", ("other", FAR): "#1" + "0" * 300, ("row", (ANN,)): "[ann]", ("set", (ANN,)): "{ann}",
    ("row", (ANN, BOB)): "[ann, bob]", ("row", (BOB, ANN)): "[bob, ann]", ("set", (BOB, ANN)): "{ann, bob}",
    ("row", (ONE, ONE, ONE, ONE)): "[#1, #1, #1, #1]", ("set", (TWO, ROW, TEN)): "{#10, #2, []}",
    ("set", (SET, ROW, MARK, ANN, ONE)): "{#1, 'ann', [], ann, {}}", ("row", (SET,)): "[{}]", ("set", (ROW,)): "{[]}",
    ("set", (SET,)): "{{}}", ("set", (("set", (SET,)), SET)): "{{{}}, {}}",
    ("row", (("set", (TWO, ONE)), ("row", (MARK,)))): "[{#1, #2}, ['ann']]",
    ("known", "abcdefghijkl"): "abcdefghijkl", ("known", "z"): "z", ("mark", "a"): "'a'"}

# What is no shown value; most of these are put into rows and sets below.
WRONG = [
    None, True, 1, "ann", b"ann", [], {}, (), ("known",), ("known", "ann", "bob"), ["known", "ann"], ("known", "all"),
    ("known", "true"), ("known", ""), ("known", "abcdefghijklm"), ("known", "Ann"), ("known", "a1"), ("known", "a b"),
    ("known", 1), ("known", None), ("known", ("ann",)), ("known", "\u00e9"), ("mark", ""), ("mark", "abcdefghijklm"),
    ("mark", "A"), ("mark", 5), ("mark", ["a"]), ("other", 0), ("other", -1), ("other", True), ("other", 1.0),
    ("other", "1"), ("other", None), ("row", [ANN]), ("row", ANN, BOB), ("row",), ("row", "ann"), ("row", None),
    ("row", (ANN,) * 5), ("set", [ANN]), ("set", {ANN}), ("set", "a"), ("set", (ANN, ANN)), ("set", (SET, SET)),
    ("set", (ONE, TWO, ONE)), ("set", (("set", (ONE, TWO)), ("set", (TWO, ONE)))), ("name", "ann"), ("var", "ann"),
    (1, "ann"), (None, None), (("known",), "ann"), ("set", (("row", (ANN, ("set", (ONE, TWO)))),
                                                          ("row", (ANN, ("set", (TWO, ONE))))))]


def shuffled(value, rng):
    """An equal value whose sets have their members in another order."""
    if value[0] == "row":
        return ("row", tuple(shuffled(part, rng) for part in value[1]))
    if value[0] == "set":
        inner = [shuffled(member, rng) for member in value[1]]
        rng.shuffle(inner)
        return ("set", tuple(inner))
    return value


def random_value(rng, deep):
    kind = rng.choice(("known", "mark", "other", "row", "set", "set")) if deep else rng.choice(("known", "other"))
    if kind in ("known", "mark"):
        return (kind, rng.choice(("ann", "bob")))
    if kind == "other":
        return (kind, rng.choice((1, 2, 3, 12)))
    inner = tuple(random_value(rng, deep - 1) for _ in range(rng.randrange(4)))
    if kind == "set":
        inner = tuple({plain.from_shown(member): member for member in inner}.values())
    return (kind, inner)


class ValuesTestCase(unittest.TestCase):
    def assertBadValue(self, shown, call, *given):
        with self.assertRaises(BadValue) as caught:
            call(*given)
        self.assertIs(type(caught.exception), BadValue)
        self.assertIs(caught.exception.shown, shown)


class TextTest(ValuesTestCase):
    def test_example(self):
        self.assertEqual(value_text(("set", (("other", 2), ("row", ()), ("other", 10)))), "{#10, #2, []}")

    def test_texts(self):
        for value, text in TEXTS.items():
            self.assertEqual(value_text(value), text)

    def test_equal_texts_for_equal_values_alone(self):
        rng = random.Random(4)
        values = list(TEXTS) + [random_value(rng, 3) for _ in range(150)]
        values += [shuffled(value, rng) for value in values]
        for a, b in itertools.combinations(values, 2):
            equal = plain.from_shown(a) == plain.from_shown(b)
            self.assertEqual(value_text(a) == value_text(b), equal)

    def test_nested_deep(self):
        value = SET
        for _ in range(2500):
            value = ("set", (value,))
        self.assertEqual(value_text(value), "{" * 2501 + "}" * 2501)
        self.assertTrue(same_value(value, value))
        self.assertEqual(others_in(value), ())

    def test_more_digits_than_python_writes_at_once(self):
        self.assertEqual(value_text(("other", 10 ** 5000 + 7)), "#1" + "0" * 4998 + "07")
        for k in (10 ** 60 - 1, 10 ** 60, 10 ** 60 + 1, 10 ** 120, 3 * 10 ** 119 + 5):
            self.assertEqual(value_text(("other", k)), f"#{k}")


class SameTest(ValuesTestCase):
    def test_no_two_of_these_are_equal(self):
        for a, b in itertools.product(TEXTS, repeat=2):
            self.assertIs(same_value(a, b), a is b)

    def test_kinds_differ(self):
        self.assertFalse(same_value(ROW, SET))
        self.assertFalse(same_value(ANN, MARK))
        self.assertFalse(same_value(ANN, ("row", (ANN,))))
        self.assertFalse(same_value(ANN, ("set", (ANN,))))

    def test_order_of_members_and_parts(self):
        self.assertTrue(same_value(("set", (ONE, TWO, ANN)), ("set", (ANN, TWO, ONE))))
        self.assertFalse(same_value(("row", (ONE, TWO)), ("row", (TWO, ONE))))
        self.assertTrue(same_value(("row", (("set", (ONE, TWO)), ANN)), ("row", (("set", (TWO, ONE)), ANN))))
        rng = random.Random(5)
        for _ in range(100):
            value = random_value(rng, 4)
            self.assertTrue(same_value(value, shuffled(value, rng)))


class OthersTest(ValuesTestCase):
    def test_others(self):
        self.assertEqual(others_in(ANN), ())
        self.assertEqual(others_in(TEN), (10,))
        self.assertEqual(others_in(("row", (TEN, TWO, TEN, ("set", (ONE, ("row", (TWO,)), SET))))), (1, 2, 10))
        self.assertEqual(others_in(("set", (("other", FAR), ONE, MARK))), (1, FAR))


class MembersTest(ValuesTestCase):
    def test_members_in_the_order_of_their_texts(self):
        self.assertEqual(members_of(("set", (TWO, ROW, TEN))), (TEN, TWO, ROW))
        self.assertEqual(members_of(("set", (SET, ROW, MARK, ANN, ONE))), (ONE, MARK, ROW, ANN, SET))

    def test_members_stand_as_they_do_in_the_value(self):
        inner = ("set", (TWO, ONE))
        self.assertEqual(members_of(("set", (SET, inner))), (inner, SET))
        self.assertIs(members_of(("set", (SET, inner)))[0], inner)

    def test_no_set(self):
        for value in (ANN, MARK, TWO, ROW, ("row", (SET, ANN)), SET):
            self.assertEqual(members_of(value), ())


class WrongValueTest(ValuesTestCase):
    def test_wrong_values(self):
        for value in WRONG:
            for call in (value_text, others_in, members_of):
                self.assertBadValue(value, call, value)
            self.assertBadValue(value, same_value, value, ANN)
            self.assertBadValue(value, same_value, ANN, value)
            self.assertBadValue(value, renumbered, value, (1, 2))

    def test_wrong_at_each_place_and_depth(self):
        for wrong in WRONG:
            for value in (("row", (wrong,)), ("row", (ANN, SET, wrong)), ("set", (wrong,)), ("set", (ANN, wrong)),
                          ("row", (("set", (("row", (ONE, wrong)), ANN)), ANN)), ("set", (SET, ("set", (("set", (wrong,)),))))):
                for call in (value_text, others_in, members_of):
                    self.assertBadValue(value, call, value)
                self.assertBadValue(value, renumbered, value, (1, 2))

    def test_the_first_wrong_argument(self):
        first, second = ("other", 0), ("row", [])
        self.assertBadValue(first, same_value, first, second)
        self.assertBadValue(second, same_value, second, first)
        self.assertBadValue(first, renumbered, first, None)


class RenumberedTest(ValuesTestCase):
    def test_example(self):
        self.assertEqual(renumbered(("row", (("other", 1), ("known", "ann"))), (7,)), ("row", (("other", 7), ("known", "ann"))))

    def test_members_keep_their_places(self):
        value = ("set", (TWO, ONE, ("row", (ONE, ONE)), SET, ("set", (("other", 3), MARK))))
        self.assertEqual(renumbered(value, (5, 4, FAR)),
                         ("set", (("other", 4), ("other", 5), ("row", (("other", 5), ("other", 5))), SET,
                                  ("set", (("other", FAR), MARK)))))

    def test_against_a_plain_one(self):
        rng = random.Random(6)
        for _ in range(100):
            value = random_value(rng, 3)
            numbers = tuple(rng.sample(range(1, 30), 12))
            found = renumbered(value, numbers)
            self.assertEqual(plain.from_shown(found), plain.renamed(plain.from_shown(value), numbers))
            back = tuple(numbers.index(k) + 1 if k in numbers else 100 + k for k in range(1, 30))
            self.assertEqual(renumbered(found, back), value)

    def test_nothing_to_replace(self):
        for value in (ANN, MARK, ROW, SET, ("set", (ANN, ("row", (MARK,))))):
            self.assertEqual(renumbered(value, ()), value)
            self.assertEqual(renumbered(value, (4, 2)), value)

    def test_wrong_numbers(self):
        for numbers in (None, 3, [1, 2], "12", {}, (1, 1), (2, 3, 2), (0,), (1, -1), (1, True), (True,), (1, "2"),
                        (1, None), (1.0,), ([1],), ((1,),), range(1, 3)):
            self.assertBadValue(numbers, renumbered, ONE, numbers)
            self.assertBadValue(numbers, renumbered, ("row", (TEN,)), numbers)

    def test_too_few_numbers(self):
        for value in (("other", 3), ("row", (ONE, ("set", (ANN, ("other", 3)))))):
            self.assertBadValue(value, renumbered, value, (4, 5))
            self.assertBadValue(value, renumbered, value, ())
            renumbered(value, (4, 5, 6))

    def test_what_is_passed_stays(self):
        value, numbers = ("set", (TWO, ("row", (ONE,)))), (3, 1)
        renumbered(value, numbers)
        members_of(value)
        self.assertEqual([value, numbers], [("set", (TWO, ("row", (ONE,)))), (3, 1)])


if __name__ == "__main__":
    unittest.main()
