"""Points [2], [6] to [13], [20], [22] to [24] and [14] for everyname/programs.py: which programs there are."""

import itertools
import unittest

from everyname.errors import BadProgram
from everyname.programs import Program
from samples import Sampler

RESERVED = "all and count else every for if in join known not or pass some true while".split()
ANN, ALL, TRUE, EMPTY = ("known", "ann"), ("all",), ("true",), ("set",)
U, V, X = ("var", "u"), ("var", "v"), ("var", "x")
ONE = ("whole", 1)
NO_INTEGERS = (True, False, None, "1", 1.0, (1,), [1])
NO_WORDS = ("", "abcdefghijklm", "Ann", "a1", "a b", "a_b", "\u00e9", "a\n", " a", None, True, 5, b"ann", ("ann",),
            ["ann"], {"ann"})

# One tree for each tag and each form that it has; the expressions stand where nothing is bound.
EXPRESSIONS = [
    ANN, ("mark", "ann"), ("mark", "all"), X, ("row",), ("row", ANN), ("row", ANN, X, ALL, EMPTY), ("set",), ("set", X),
    ("set", ANN, ANN, X, ("row",)), ALL, ("union", X, ALL), ("meet", X, X), ("without", ALL, X), ("either", X, ALL),
    ("join", X), ("gather", U, (("u", ALL),), TRUE), ("gather", EMPTY, (((), X),), TRUE),
    ("gather", ("row", U, V), ((("u", "v"), X), ("w", U), (("x", "y", "z", "p"), ALL)), ("in", V, ("var", "w"))),
    ("gather", U, (("u", ("gather", U, (("u", ALL),), TRUE)),), ("some", "v", U, TRUE)),
    ("union", ("gather", U, (("u", U),), TRUE), U)]
TESTS = [
    TRUE, ("same", ANN, X), ("in", ANN, X), ("within", X, ALL), ("not", TRUE), ("and", TRUE, TRUE), ("or", TRUE, TRUE),
    ("some", "u", ALL, ("same", U, U)), ("every", ("u", "v"), X, ("in", U, V)), ("some", (), X, TRUE),
    ("compare", ONE, "<", ONE), ("compare", ONE, "<=", ONE), ("compare", ONE, "==", ONE), ("compare", ONE, "!=", ONE),
    ("compare", ("count", X), ">", ("plus", ONE, ("minus", ONE, ONE))),
    ("compare", ("whole", 0), ">=", ("times", ("whole", 10 ** 60), ("count", ALL)))]
STATEMENTS = ([(tag, "x", ALL) for tag in ("put", "add", "drop")] + [("put", "y", e) for e in EXPRESSIONS]
              + [("if", TRUE, (), ()), ("if", TRUE, (("put", "x", ALL),), ()), ("while", TRUE, ()),
                 ("if", TRUE, (), (("add", "x", ALL), ("drop", "y", X))),
                 ("while", TRUE, (("if", TRUE, (("put", "x", ALL),), (("put", "x", X),)),))]
              + [(tag, t) + rest for t in TESTS for tag, rest in (("if", ((), ())), ("while", ((),)))])


def spoiled(tree):
    """Versions of a tree that are wrong, whatever it is and wherever it stands: some for each place in it."""
    yield from (None, True, 5, list(tree), tree + (None,), (), [], "", {})
    yield ("nothere",) + tree[1:]
    if tree[0] not in ("row", "set"):
        yield from (tree[:k] for k in range(1, len(tree)))
    for k, part in enumerate(tree):
        yield from (tree[:k] + (wrong,) + tree[k + 1:] for wrong in spoiled_part(tree[0], k, part))


def spoiled_part(tag, k, part):
    """Wrong versions of an item of a tree."""
    yield from (None, True, 1.5, [part], "All", "")
    if not isinstance(part, tuple):
        return
    if tag in ("if", "while") and k > 1:
        yield list(part)
    elif tag in ("some", "every") and k == 1:
        yield from (list(part), part + (None,), part + ("all",), part + ("Ann",))
    elif tag == "gather" and k == 2:
        yield from ((), list(part), part + (None,), part * 4)
        for j, (pattern, source) in enumerate(part):
            pairs = [None, [pattern, source], (pattern,), (pattern, source, source), (source, pattern), (None, source)]
            pairs += [(pattern, wrong) for wrong in spoiled(source)]
            yield from (part[:j] + (pair,) + part[j + 1:] for pair in pairs)
    else:
        yield from spoiled(part)


def nested(wrap, core, depth):
    """A tree of some depth: core has the depth 1, and each wrap adds 1."""
    for _ in range(depth - 1):
        core = wrap(core)
    return core


# Ways to get one deeper, each with a core of depth 1 and with what makes a statement of it at depth + added.
WRAPS = [
    (lambda e: ("join", e), ALL, 0, lambda e: ("put", "x", e)),
    (lambda e: ("row", ANN, e), ANN, 0, lambda e: ("add", "x", e)),
    (lambda e: ("set", e, ANN), X, 0, lambda e: ("drop", "x", e)),
    (lambda e: ("union", ALL, e), ("mark", "a"), 0, lambda e: ("put", "x", e)),
    (lambda e: ("either", e, ALL), EMPTY, 0, lambda e: ("put", "x", e)),
    (lambda e: ("gather", e, (((), ALL),), TRUE), ("row",), 0, lambda e: ("put", "x", e)),
    (lambda e: ("gather", ANN, (("u", e),), TRUE), ALL, 0, lambda e: ("put", "x", e)),
    (lambda e: ("gather", ANN, (((), ALL), ((), ALL), ("v", e)), TRUE), ALL, 0, lambda e: ("put", "x", e)),
    (lambda t: ("not", t), TRUE, 0, lambda t: ("while", t, ())),
    (lambda t: ("and", TRUE, t), TRUE, 0, lambda t: ("if", t, (), ())),
    (lambda t: ("some", (), ALL, t), TRUE, 0, lambda t: ("if", t, (), ())),
    (lambda t: ("not", t), TRUE, 1, lambda t: ("put", "x", ("gather", U, (("u", ALL),), t))),
    (lambda e: ("join", e), ALL, 1, lambda e: ("if", ("every", "u", e, TRUE), (), ())),
    (lambda e: ("join", e), ALL, 1, lambda e: ("if", ("same", ALL, e), (), ())),
    (lambda e: ("join", e), ALL, 2, lambda e: ("while", ("compare", ONE, "<", ("count", e)), ())),
    (lambda x: ("plus", x, ONE), ONE, 1, lambda x: ("while", ("compare", x, "<", ONE), ())),
    (lambda x: ("times", ONE, x), ("count", ALL), 2, lambda x: ("while", ("compare", ONE, "==", x), ()))]


class ProgramsTestCase(unittest.TestCase):
    def assertBadProgram(self, place, call, *given):
        with self.assertRaises(BadProgram) as caught:
            call(*given)
        self.assertIs(type(caught.exception), BadProgram)
        self.assertEqual(caught.exception.place, place)
        self.assertIs(type(caught.exception.place), tuple)

    def assertWrong(self, statement, known=("ann",)):
        self.assertBadProgram((0,), Program, known, (statement,))

    def assertRight(self, statement, known=("ann",)):
        self.assertEqual(Program(known, (statement,)).statements, (statement,))


class KnownTest(ProgramsTestCase):
    def test_words_at_the_edges(self):
        for word in ("a", "z", "abcdefghijkl", "zzzzzzzzzzzz", "ann", "alla", "al", "iff"):
            self.assertEqual(Program((word,)).known, (word,))
            self.assertRight(("put", word, ("mark", word)), ())

    def test_wrong_words(self):
        for word in NO_WORDS + tuple(RESERVED):
            self.assertBadProgram((), Program, (word,))
            self.assertBadProgram((), Program, ("bob", word), ())
            self.assertWrong(("put", word, ALL))
            self.assertWrong(("put", "x", ("var", word)))
            self.assertWrong(("put", "x", ("known", word)))

    def test_reserved_words_are_marks(self):
        for word in RESERVED:
            self.assertRight(("put", "x", ("mark", word)))
        for word in NO_WORDS:
            self.assertWrong(("put", "x", ("mark", word)))

    def test_no_tuple_of_different_words(self):
        for known in (["ann"], "ann", None, {"ann"}, 5, ("ann", "ann"), ("ann", "bob", "ann"), {"ann": 1}, True):
            self.assertBadProgram((), Program, known)
            self.assertBadProgram((), Program, known, (None,))

    def test_order_is_kept(self):
        self.assertEqual(Program(("bob", "ann")).known, ("bob", "ann"))

    def test_empty_program(self):
        program = Program()
        self.assertEqual((program.known, program.statements, program.variables), ((), (), ()))
        self.assertEqual(program.text, "known")


class TreesTest(ProgramsTestCase):
    def test_right_trees(self):
        for statement in STATEMENTS:
            self.assertRight(statement)
        for t in TESTS:
            self.assertRight(("put", "x", ("gather", ALL, (("a", ALL),), t)))

    def test_wrong_at_each_place(self):
        many = 0
        for statement in STATEMENTS:
            for wrong in spoiled(statement):
                self.assertWrong(wrong)
                many += 1
        self.assertGreater(many, 2000)

    def test_kinds_are_not_exchanged(self):
        for wrong in TESTS + [ONE, ("count", ALL)] + STATEMENTS[:3]:
            for e in (wrong, ("join", wrong), ("row", wrong), ("gather", wrong, (("a", ALL),), TRUE),
                      ("gather", ALL, (("a", wrong),), TRUE)):
                self.assertWrong(("put", "x", e))
        for wrong in EXPRESSIONS + [ONE]:
            for statement in (("if", wrong, (), ()), ("while", ("not", wrong), ()), ("if", ("and", TRUE, wrong), (), ()),
                              ("if", ("some", "a", ALL, wrong), (), ())):
                self.assertWrong(statement)
        for wrong in EXPRESSIONS + TESTS:
            self.assertWrong(("while", ("compare", wrong, "<", ONE), ()))
            self.assertWrong(("while", ("compare", ONE, "<", ("plus", ONE, wrong)), ()))

    def test_lengths(self):
        self.assertWrong(("put", "x", ("row",) + (ANN,) * 5))
        self.assertWrong(("put", "x", ("set",) + (ANN,) * 5))
        self.assertWrong(("put", "x", ("gather", U, (), TRUE)))
        self.assertWrong(("put", "x", ("gather", ANN, tuple((name, ALL) for name in "abcd"), TRUE)))
        self.assertRight(("put", "x", ("gather", ANN, tuple((name, ALL) for name in "abc"), TRUE)))
        self.assertWrong(("put", "x", ("gather", ANN, ((tuple("abcde"), ALL),), TRUE)))
        self.assertRight(("put", "x", ("gather", ANN, ((tuple("abcd"), ALL),), TRUE)))

    def test_whole_numbers(self):
        for k in (0, 1, 7, 10 ** 60 - 1, 10 ** 60):
            self.assertRight(("while", ("compare", ("whole", k), "<", ONE), ()))
        for k in (-1, 10 ** 60 + 1, 10 ** 300) + NO_INTEGERS:
            self.assertWrong(("while", ("compare", ("whole", k), "<", ONE), ()))
            self.assertWrong(("while", ("compare", ONE, "<", ("plus", ONE, ("whole", k))), ()))

    def test_signs(self):
        for sign in ("=", "=>", "", "< ", "in", "and", None, 1, ("<",), True):
            self.assertWrong(("while", ("compare", ONE, sign, ONE), ()))


class ScopeTest(ProgramsTestCase):
    def test_known_names_are_no_variables(self):
        for statement in (("put", "ann", ALL), ("put", "x", ("var", "ann")),
                          ("put", "x", ("gather", ALL, (("ann", ALL),), TRUE)),
                          ("put", "x", ("gather", ALL, ((("u", "ann"), ALL),), TRUE)),
                          ("if", ("some", "ann", ALL, TRUE), (), ())):
            self.assertWrong(statement)
            self.assertRight(statement, ())
        self.assertWrong(("put", "x", ANN), ())
        self.assertWrong(("put", "x", ("known", "x")))

    def test_patterns_bind_different_variables(self):
        self.assertWrong(("put", "x", ("gather", U, ((("u", "u"), ALL),), TRUE)))
        self.assertWrong(("put", "x", ("gather", U, (("u", ALL), ("u", ALL)), TRUE)))
        self.assertWrong(("put", "x", ("gather", U, (("u", ALL), (("v", "u"), ALL)), TRUE)))
        self.assertWrong(("put", "x", ("gather", U, (("u", ALL),), ("some", "u", ALL, TRUE))))
        self.assertWrong(("put", "x", ("gather", ("gather", U, (("u", ALL),), TRUE), (("u", ALL),), TRUE)))
        self.assertWrong(("put", "x", ("gather", U, (("u", ALL), ("v", ("gather", U, (("u", ALL),), TRUE))), TRUE)))
        self.assertWrong(("if", ("some", "u", ALL, ("every", ("u",), ALL, TRUE)), (), ()))

    def test_a_pattern_binds_nothing_in_its_own_source(self):
        inner = ("gather", U, (("u", ALL),), TRUE)
        self.assertRight(("put", "x", ("gather", U, (("u", inner),), TRUE)))
        self.assertRight(("put", "x", ("gather", U, (("v", inner), ("u", ALL)), TRUE)))
        self.assertRight(("if", ("some", "u", inner, TRUE), (), ()))
        self.assertEqual(Program((), (("put", "x", ("gather", U, (("u", U),), TRUE)),)).variables, ("u", "x"))

    def test_state_variables_may_have_the_names_of_bound_ones(self):
        statement = ("put", "u", ("gather", U, (("u", ALL),), TRUE))
        self.assertRight(statement)
        self.assertEqual(Program((), (statement,)).variables, ("u",))

    def test_variables(self):
        statements = (("while", ("some", "u", ("var", "b"), ("in", U, ("var", "a"))),
                       (("if", ("same", ("var", "u"), V), (("add", "z", ALL),), (("drop", "y", ("var", "c")),)),)),
                      ("put", "x", ("gather", ("var", "d"), (("d", ALL),), ("within", ("var", "e"), ("var", "d")))),
                      ("if", ("compare", ("count", ("var", "f")), "<", ("plus", ONE, ("count", ("var", "g")))), (), ()))
        self.assertEqual(Program((), statements).variables, ("a", "b", "c", "e", "f", "g", "u", "v", "x", "y", "z"))
        self.assertEqual(Program((), (("put", "x", ("gather", U, (("u", ALL),), TRUE)),)).variables, ("x",))


class DepthTest(ProgramsTestCase):
    def test_trees_of_depth_40(self):
        for wrap, core, added, statement in WRAPS:
            self.assertRight(statement(nested(wrap, core, 40 - added)))
            self.assertWrong(statement(nested(wrap, core, 41 - added)))
            self.assertWrong(statement(nested(wrap, core, 3000)))

    def test_wrong_at_each_depth(self):
        for wrap, core, added, statement in WRAPS:
            for depth in range(1, 41 - added):
                self.assertRight(statement(nested(wrap, core, depth)))
                for wrong in (None, list(core), ("nothere",), core + (None,)):
                    self.assertWrong(statement(nested(wrap, wrong, depth)))

    def test_statements_on_level_10(self):
        for wrap in (lambda row: ("while", TRUE, (row,)), lambda row: ("if", TRUE, (row,), ()),
                     lambda row: ("if", TRUE, (), (row,))):
            side = 1 if wrap(None)[2] == () else 0
            for core in (("put", "x", ALL), ("if", TRUE, (), ()), ("while", TRUE, ())):
                self.assertRight(nested(wrap, core, 10))
                path = (0,) + (side, 0) * 10
                self.assertBadProgram(path, Program, (), (nested(wrap, core, 11),))
                self.assertBadProgram(path, Program, (), (nested(wrap, core, 14),))
                self.assertBadProgram(path, Program, (), (nested(wrap, core, 2000),))
            self.assertBadProgram((0,) + (side, 0) * 10, Program, (), (nested(wrap, None, 11),))
            self.assertBadProgram((0,) + (side, 0) * 9, Program, (), (nested(wrap, None, 10),))

    def test_deep_trees_in_deep_statements(self):
        deep = ("put", "x", nested(lambda e: ("join", e), ALL, 40))
        deeper = ("put", "x", ("join", deep[2]))
        self.assertRight(nested(lambda row: ("while", TRUE, (row,)), deep, 10))
        self.assertBadProgram((0,) + (0, 0) * 9, Program, (), (nested(lambda row: ("while", TRUE, (row,)), deeper, 10),))


class PlaceTest(ProgramsTestCase):
    good, bad = ("put", "x", ALL), ("put", "x", ANN)

    def assertPlace(self, place, *statements):
        self.assertBadProgram(place, Program, (), statements)

    def test_example(self):
        self.assertPlace((0,), ("put", "x", ("known", "ann")))

    def test_each_place(self):
        for many in range(1, 5):
            for k in range(many):
                rows = [self.good] * many
                rows[k] = self.bad
                self.assertPlace((k,), *rows)
                rows = tuple(rows)
                self.assertPlace((1, 0, k), self.good, ("while", TRUE, rows))
                self.assertPlace((0, 0, k), ("if", TRUE, rows, ()))
                self.assertPlace((0, 1, k), ("if", TRUE, (self.good,), rows))
                self.assertPlace((0, 1, 2, 0, k, 0, 0), ("if", TRUE, (), (self.good, self.good, (
                    "while", TRUE, (self.good,) * k + (("if", TRUE, (self.bad,), ()),)))))

    def test_the_first_in_the_order_of_the_text(self):
        bad, good = self.bad, self.good
        self.assertPlace((1,), good, bad, bad)
        self.assertPlace((0, 0, 0), ("if", TRUE, (bad,), (bad,)), bad)
        self.assertPlace((0, 1, 1), ("if", TRUE, (good,), (good, bad)), bad)
        self.assertPlace((0,), ("if", ("nothere",), (bad,), (bad,)), bad)
        self.assertPlace((1, 0, 0, 0, 0), good, ("while", TRUE, (("while", TRUE, (bad,)), bad)), bad)

    def test_tuples_of_statements_that_are_none(self):
        bad, good = self.bad, self.good
        for rows in ([good], [], None, "ab", {}, 5, {good: 1}):
            self.assertBadProgram((), Program, (), rows)
            self.assertPlace((1,), good, ("while", TRUE, rows))
            self.assertPlace((0,), ("if", TRUE, rows, ()))
            self.assertPlace((0,), ("if", TRUE, (bad,), rows))
            self.assertPlace((0, 1, 0), ("if", TRUE, (good,), (("while", TRUE, rows), bad)))

    def test_known_names_come_first(self):
        self.assertBadProgram((), Program, ("all",), (self.bad,))
        self.assertBadProgram((), Program, ["ann"], None)


class EqualTest(ProgramsTestCase):
    def test_equal_programs(self):
        rows = (("put", "x", ALL), ("while", TRUE, ()))
        self.assertTrue(Program(("ann",), rows) == Program(("ann",), rows))
        self.assertFalse(Program(("ann",), rows) != Program(("ann",), rows))
        for other in (Program((), rows), Program(("ann", "bob"), rows), Program(("ann",), rows[:1]),
                      Program(("ann",), rows[::-1]), Program(("ann",)), None, rows, (("ann",), rows), "known ann"):
            self.assertFalse(Program(("ann",), rows) == other)
            self.assertTrue(Program(("ann",), rows) != other)
        self.assertFalse(Program(("ann", "bob")) == Program(("bob", "ann")))


class MakersTest(ProgramsTestCase):
    first = Program(("ann",), (("put", "x", ANN), ("if", TRUE, (("add", "y", X),), ())))

    def test_with_known(self):
        for word in ("bob", "z", "u", "abcdefghijkl"):
            found = self.first.with_known(word)
            self.assertEqual((found.known, found.statements, found.variables),
                             (("ann", word), self.first.statements, ("x", "y")))
        self.assertEqual((self.first.known, self.first.variables), (("ann",), ("x", "y")))

    def test_wrong_words(self):
        for word in NO_WORDS + tuple(RESERVED) + ("ann",):
            self.assertBadProgram((), self.first.with_known, word)

    def test_variables_are_no_new_known_names(self):
        self.assertBadProgram((0,), self.first.with_known, "x")
        self.assertBadProgram((1, 0, 0), self.first.with_known, "y")
        program = Program((), (("put", "x", ALL), ("if", ("some", ("p", "q"), ALL, TRUE), (), (("drop", "x", X),))))
        self.assertBadProgram((1,), program.with_known, "q")
        self.assertBadProgram((0,), program.with_known, "x")

    def test_then(self):
        other = Program(("bob", "ann", "eve"), (("drop", "z", ("known", "bob")), ("add", "x", ANN)))
        for found in (self.first.then(other), self.first + other):
            self.assertIs(type(found), Program)
            self.assertEqual(found, Program(("ann", "bob", "eve"), self.first.statements + other.statements))
            self.assertEqual(found.variables, ("x", "y", "z"))
        self.assertEqual((other + self.first).known, ("bob", "ann", "eve"))
        self.assertEqual(Program() + self.first, self.first)
        self.assertEqual(self.first + Program(), self.first)
        self.assertEqual((self.first.known, other.known, len(other.statements)), (("ann",), ("bob", "ann", "eve"), 2))

    def test_wrong_joined_programs(self):
        self.assertBadProgram((0,), self.first.then, Program(("x",)))
        plain = Program((), (("put", "a", ALL), ("if", TRUE, (), (("put", "ann", ALL),))))
        self.assertBadProgram((3, 1, 0), self.first.then, plain)
        self.assertBadProgram((3, 1, 0), lambda a, b: a + b, self.first, plain)
        self.assertBadProgram((1, 1, 0), plain.then, self.first)

    def test_no_program(self):
        for other in (None, 5, "known", ((), ())):
            with self.assertRaises(TypeError):
                self.first + other

    def test_random_programs_stay(self):
        for seed in range(30):
            sampler = Sampler(seed)
            program, other = (Program(("ann",), sampler.rows(3, 2)) for _ in range(2))
            before = [(p.known, p.statements, p.variables) for p in (program, other)]
            program.then(other), program + other, program.text, program == other, program.with_known("eve")
            self.assertEqual([(p.known, p.statements, p.variables) for p in (program, other)], before)
            self.assertEqual((program + other).variables, tuple(sorted(set(program.variables + other.variables))))


if __name__ == "__main__":
    unittest.main()
