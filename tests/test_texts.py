"""Points [15] to [19], [21] and [22] for everyname/programs.py: the text of a program, and reading it."""

import random
import unittest

from everyname.errors import BadText
from everyname.programs import Program
from samples import Sampler

ANN, ALL, TRUE = ("known", "ann"), ("all",), ("true",)
U, V, X = ("var", "u"), ("var", "v"), ("var", "x")
ONE, TWO = ("whole", 1), ("whole", 20)
FAR = 10 ** 60

EXPRESSIONS = {
    "ann": ANN, "x": X, "'ann'": ("mark", "ann"), "'all'": ("mark", "all"), "[]": ("row",), "{}": ("set",),
    "[ann]": ("row", ANN), "[ann, x, all, {}]": ("row", ANN, X, ALL, ("set",)), "{x}": ("set", X),
    "{ann, ann, 'a', []}": ("set", ANN, ANN, ("mark", "a"), ("row",)), "all": ALL, "(x | all)": ("union", X, ALL),
    "(x & all)": ("meet", X, ALL), "(x - all)": ("without", X, ALL), "(x ^ all)": ("either", X, ALL),
    "join(x)": ("join", X), "((x | u) - (u & {x}))": ("without", ("union", X, U), ("meet", U, ("set", X))),
    "{u for u in all}": ("gather", U, (("u", ALL),), TRUE),
    "{[u, v] for [u, v] in x for w in u for [] in all if (v in w)}":
        ("gather", ("row", U, V), ((("u", "v"), X), ("w", U), ((), ALL)), ("in", V, ("var", "w"))),
    "{{u for v in x} for u in join(all) if not true}":
        ("gather", ("gather", U, (("v", X),), TRUE), (("u", ("join", ALL)),), ("not", TRUE)),
    "{u for [p, q, r, s] in x}": ("gather", U, ((("p", "q", "r", "s"), X),), TRUE),
    "{'a' for [u] in x}": ("gather", ("mark", "a"), ((("u",), X),), TRUE)}
NUMBERS = {
    "0": ("whole", 0), "20": TWO, str(FAR): ("whole", FAR), "count(x)": ("count", X), "(1 + 20)": ("plus", ONE, TWO),
    "(1 - 20)": ("minus", ONE, TWO), "(1 * 20)": ("times", ONE, TWO),
    "((1 - count({})) * (20 + 1))": ("times", ("minus", ONE, ("count", ("set",))), ("plus", TWO, ONE))}
TESTS = {
    "true": TRUE, "(x == ann)": ("same", X, ANN), "(x in all)": ("in", X, ALL), "(x <= all)": ("within", X, ALL),
    "not true": ("not", TRUE), "not not (x in u)": ("not", ("not", ("in", X, U))), "(true and true)": ("and", TRUE, TRUE),
    "(not true or (x == u))": ("or", ("not", TRUE), ("same", X, U)), "(some u in x: true)": ("some", "u", X, TRUE),
    "(every [u, v] in all: (u == v))": ("every", ("u", "v"), ALL, ("same", U, V)), "(some [] in x: true)": ("some", (), X, TRUE),
    "(1 == 20)": ("compare", ONE, "==", TWO), "(1 <= 20)": ("compare", ONE, "<=", TWO), "(1 < 20)": ("compare", ONE, "<", TWO),
    "(1 != 20)": ("compare", ONE, "!=", TWO), "(1 > 20)": ("compare", ONE, ">", TWO), "(1 >= 20)": ("compare", ONE, ">=", TWO),
    "(count((x - u)) - 1)": None,
    "((count((x - u)) - 1) < 1)": ("compare", ("minus", ("count", ("without", X, U)), ONE), "<", ONE)}

PROGRAM = """known ann, bob
near = {[u, v] for u in all for v in all if not (u == v)}
met |= {ann}
while (count(met) < 3):
  if (some u in all: not (u in met)):
    met |= {v for [u, v] in near if (u in met)}
    if true:
      pass
    else:
      while true:
        pass
  else:
    met -= {bob}
    x = 'met'
  x = [x, met]
if (x == met):
  pass"""
STATEMENTS = (
    ("put", "near", ("gather", ("row", U, V), (("u", ALL), ("v", ALL)), ("not", ("same", U, V)))),
    ("add", "met", ("set", ANN)),
    ("while", ("compare", ("count", ("var", "met")), "<", ("whole", 3)), (
        ("if", ("some", "u", ALL, ("not", ("in", U, ("var", "met")))), (
            ("add", "met", ("gather", V, ((("u", "v"), ("var", "near")),), ("in", U, ("var", "met")))),
            ("if", TRUE, (), (("while", TRUE, ()),))),
         (("drop", "met", ("set", ("known", "bob"))), ("put", "x", ("mark", "met")))),
        ("put", "x", ("row", X, ("var", "met"))))),
    ("if", ("same", X, ("var", "met")), (), ()))


def is_read(text):
    try:
        Program.read(text)
    except BadText:
        return False
    return True


def refused_line(text):
    """The line of the error as point [19] says it, by asking only which whole texts are read."""
    lines = text.split("\n")
    for k in range(1, len(lines) + 1):
        start = "\n".join(lines[:k])
        deeper = "\n" + " " * (len(lines[k - 1]) - len(lines[k - 1].lstrip(" ")) + 2)
        if not any(map(is_read, (start, start + deeper + "pass", start + deeper + "zzzzzzzz = all"))):
            return k
    return None if is_read(text) else len(lines) + 1


class TextsTestCase(unittest.TestCase):
    def assertBadText(self, line, text):
        with self.assertRaises(BadText) as caught:
            Program.read(text)
        self.assertIs(type(caught.exception), BadText)
        self.assertEqual(caught.exception.line, line, text)

    def assertText(self, text, known, statements):
        """Check that a program has this text and that the text is read as this program."""
        program = Program(known, statements)
        self.assertEqual(program.text, text)
        found = Program.read(text)
        self.assertIs(type(found), Program)
        self.assertEqual((found.known, found.statements, found.variables), (known, statements, program.variables))

    def assertWrongBehind(self, line, *more):
        """Check that a line is refused behind two good ones."""
        self.assertBadText(3, "\n".join(("known ann", "x = ann", line) + more))


class TreeTextsTest(TextsTestCase):
    def test_expressions(self):
        for text, e in EXPRESSIONS.items():
            for tag, mark in (("put", "="), ("add", "|="), ("drop", "-=")):
                self.assertText(f"known ann\nabc {mark} {text}", ("ann",), ((tag, "abc", e),))

    def test_tests(self):
        for text, t in TESTS.items():
            if t is not None:
                self.assertText(f"known ann\nwhile {text}:\n  pass", ("ann",), (("while", t, ()),))
                self.assertText(f"known ann\nif {text}:\n  pass", ("ann",), (("if", t, (), ()),))
            else:
                self.assertWrongBehind(f"while {text}:", "  pass")

    def test_tests_of_gathers(self):
        for text, t in TESTS.items():
            if t not in (None, TRUE):
                e = ("gather", ("var", "a"), (("a", ALL),), t)
                self.assertText(f"known ann\ny = {{a for a in all if {text}}}", ("ann",), (("put", "y", e),))

    def test_numbers(self):
        for text, x in NUMBERS.items():
            self.assertText(f"known\nif (({text} + 1) < {text}):\n  pass", (),
                            (("if", ("compare", ("plus", x, ONE), "<", x), (), ()),))

    def test_kinds_in_the_wrong_place(self):
        for text in list(TESTS) + list(NUMBERS):
            if text != "(x <= all)":
                self.assertWrongBehind(f"y = {text}")
                self.assertWrongBehind(f"y = [{text}]")
                self.assertWrongBehind(f"y = (x | {text})")
                self.assertWrongBehind(f"y = {{{text} for a in all}}")
        for text in list(EXPRESSIONS) + list(NUMBERS):
            for line in (f"while {text}:", f"if not {text}:", f"if (true and {text}):", f"if (some a in all: {text}):"):
                self.assertWrongBehind(line)
        for text in list(EXPRESSIONS) + [text for text, t in TESTS.items() if t is not None]:
            for line in (f"if ({text} < 1):", f"if (1 == {text}):", f"if (1 < (1 + {text})):", f"if (({text} * 1) < 1):"):
                self.assertWrongBehind(line)

    def test_known_names_and_variables(self):
        self.assertEqual(Program.read("known x\ny = x").statements, (("put", "y", ("known", "x")),))
        self.assertEqual(Program.read("known\ny = x").statements, (("put", "y", X),))
        self.assertEqual(Program.read("known u\ny = u").variables, ("y",))


class ProgramTextsTest(TextsTestCase):
    def test_example(self):
        text = ("known ann\nnear = {[u, v] for u in all for v in all if not (u == v)}\nmet = {ann}\n"
                "while (count(met) < 3):\n  met |= {v for [u, v] in near if (u in met)}")
        given = Program.read(text)
        self.assertEqual([given.known, given.variables, len(given.statements)], [("ann",), ("met", "near"), 3])
        self.assertEqual(given.text, text)

    def test_long_texts(self):
        text = "known\n" + "\n".join(["if true:\n  x = all\nelse:\n  y = all"] * 2000)
        self.assertEqual(Program.read(text).text, text)
        for line in ("x = {u" + " for u in all" * 50000 + "}", "x = {u for [" + ", ".join(["u"] * 50000) + "] in all}",
                     "x = [" + ", ".join(["u"] * 50000) + "]", "x = " + "a" * 100000):
            self.assertBadText(2, "known\n" + line)
        self.assertBadText(1, "known " + ", ".join(["ann"] * 50000))

    def test_a_program(self):
        self.assertText(PROGRAM, ("ann", "bob"), STATEMENTS)

    def test_without_statements(self):
        self.assertText("known", (), ())
        self.assertText("known ann", ("ann",), ())
        self.assertText("known bob, ann, abcdefghijkl", ("bob", "ann", "abcdefghijkl"), ())

    def test_random_programs(self):
        for seed in range(150):
            sampler = Sampler(seed, known=((), ("ann",), ("bob", "ann"))[seed % 3])
            program = Program(sampler.known, sampler.rows(4, 3))
            self.assertText(program.text, program.known, program.statements)

    def test_ten_levels(self):
        for head, level in (("while true:", 10), ("if true:", 10)):
            lines = ["known"] + ["  " * k + head for k in range(level)]
            text = "\n".join(lines + ["  " * level + "pass"])
            self.assertEqual(Program.read(text).text, text)
            text = "\n".join(lines[:-1] + ["  " * (level - 1) + "x = all"])
            self.assertEqual(Program.read(text).text, text)
            self.assertBadText(12, "\n".join(lines + ["  " * level + "x = all"]))
            self.assertBadText(12, "\n".join(lines))
            self.assertBadText(13, "\n".join(lines + ["  " * level + "pass", "  " * level + "pass"]))

    def test_else_on_the_deepest_levels(self):
        lines = ["known"] + ["  " * k + "if true:" for k in range(9)]
        text = "\n".join(lines + ["  " * 9 + "x = all", "  " * 8 + "else:", "  " * 9 + "x = all"])
        self.assertEqual(Program.read(text).text, text)
        text = "\n".join(lines + ["  " * 9 + "if true:", "  " * 10 + "pass", "  " * 9 + "else:", "  " * 10 + "x = all"])
        self.assertBadText(13, text)

    def test_depth_40(self):
        for start, core, end in (("join(", "all", ")"), ("[", "[]", "]"), ("{", "{}", "}"), ("(all | ", "all", ")"),
                                 ("{all for [] in ", "all", "}"), ("{", "x", " for [] in all}")):
            self.assertEqual(len(Program.read(f"known\ny = {start * 39}{core}{end * 39}").statements), 1)
            for many in (40, 41, 300, 20000):
                self.assertBadText(2, f"known\ny = {start * many}{core}{end * many}")
                self.assertBadText(2, f"known\ny = {start * many}")
        for start, core, end in (("not ", "true", ""), ("(true and ", "true", ")"), ("(some [] in all: ", "true", ")")):
            Program.read(f"known\nif {start * 39}{core}{end * 39}:\n  pass")
            for many in (40, 20000):
                self.assertBadText(2, f"known\nif {start * many}{core}{end * many}:\n  pass")
        Program.read(f"known\nif ({'(1 + ' * 38}1{')' * 38} < 1):\n  pass")
        self.assertBadText(2, f"known\nif ({'(1 + ' * 39}1{')' * 39} < 1):\n  pass")

    def test_brackets_of_all_kinds_nested_deep(self):
        rng = random.Random(7)
        for _ in range(40):
            self.assertBadText(2, "known\nx = " + "".join(rng.choice("([{") for _ in range(rng.choice((30, 100, 5000)))))
            self.assertBadText(2, "known\nif " + "".join(rng.choice(("(", "not ", "(some x in {")) for _ in range(200)))

    def test_numbers_of_many_digits(self):
        Program.read(f"known\nif ({FAR} < 0):\n  pass")
        for k in (str(FAR + 1), "1" * 62, "9" * 61, "1" * 4300, "1" * 4301, "7" * 100000, "0" * 5000, "00", "01", "-1", "1_0",
                  "1.0", "\u0661", "0x1", "1e3", "+1", "\u00b2"):
            self.assertBadText(2, f"known\nif ({k} < 0):\n  pass")
            self.assertBadText(2, f"known\nif (0 < {k}):\n  pass")


class RefusedTest(TextsTestCase):
    def test_examples(self):
        self.assertBadText(2, "known\nx = (all | 3)")
        self.assertBadText(1, "")
        self.assertBadText(2, "known\n")
        self.assertBadText(3, "known\nx = all\n")

    def test_line_ends_at_the_end(self):
        lines = PROGRAM.split("\n")
        for k in range(1, len(lines) + 1):
            text = "\n".join(lines[:k])
            self.assertBadText(k + 1, text + "\n")
            self.assertBadText(k + 1, text + "\n\n")
            self.assertBadText(k + 1, text + "\n  ")

    def test_first_lines(self):
        for line in ("", " known", "known ", "known  ann", "known ann ", "known ann,bob", "known ann, ", "known , ann",
                     "known ann bob", "Known", "knownann", "known ann, ann", "known all", "known known", "known Ann",
                     "known abcdefghijklm", "known ann,  bob", "known\tann", "x = all", "pass", "known ann, true", "known 1",
                     "known: ann", "known 'ann'", "known\r", "known ann,", "known\u00a0ann", "known a\u00e9"):
            self.assertBadText(1, line)
            self.assertBadText(1, line + "\nx = all")
            self.assertBadText(1, line + "\n???")

    def test_lines_of_statements(self):
        for line in ("", " ", "x", "x =", "x = ", "x  = all", "x =  all", "x = all ", " x = all", "x= all", "x =all", "x == all",
                     "x := all", "x &= all", "x |=all", "x | = all", "x += all", "= all", "ann = all", "all = ann", "if = all",
                     "X = all", "x1 = all", "x = All", "abcdefghijklm = all", "x = abcdefghijklm", "x = 'abcdefghijklm'",
                     "x = true", "x = count", "x = join", "x = in", "x = known", "pass", "else:", "while true", "while true :",
                     "while  true:", "while true: ", "whiletrue:", "while:", "while :", "if true", "if True:", "elif true:",
                     "else :", "for u in all:", "x = 'a", "x = a'", "x = ''", "x = '1'", "x = \"a\"", "x = ' a'", "x = 'A'",
                     "x = all;", "x = all # all", "x = all\t", "x = all\r", "\tx = all", "x = [all", "x = [all,all]",
                     "x = [all , all]", "x = [all, ]", "x = [,]", "x = [ ]", "x = { }", "x = {all,}", "x = [all]]",
                     "x = (all)", "x = ()", "x = (all | all | all)", "x = all | all", "x = (all|all)", "x = (all  | all)",
                     "x = ( all | all)", "x = (all | all )", "x = (all || all)", "x = (all and all)", "x = (all + all)",
                     "x = (all * all)", "x = (all", "x = (all |", "x = (all | ", "x = (all | all", "x = join all",
                     "x = join()", "x = join (all)", "x = join(all, all)", "x = join(all", "x = count(all)",
                     "x = [a, b, c, d, e]", "x = {a, b, c, d, e}", "x = {u for u in all if true}", "x = {u for u in all if }",
                     "x = {u for u in all for u in all}", "x = {u for ann in all}", "x = {u for [u, u] in all}",
                     "x = {u for [a, b, c, d, e] in all}", "x = {u for a in all for b in all for c in all for d in all}",
                     "x = {u for u in all,}", "x = {u, v for u in all}", "x = {u for u, v in all}", "x = {u for [u,v] in all}",
                     "x = {u for [u ] in all}", "x = {u for {u} in all}", "x = {u for u all}", "x = {u for in all}",
                     "x = {u for u in }", "x = {for u in all}", "x = {u for u  in all}", "x = {u if true for u in all}",
                     "x = {u for u in all if (u in x) if (u in x)}", "x = {u for u in all if (u in x) for v in all}",
                     "x = [u for u in all]", "x = {u for u in all if x}", "x = {u for 'u' in all}", "x = {u for [] [] in all}",
                     "if (x):", "if (x = x):", "if (x === x):", "if (x != x):", "if (x < x):", "if (x not in x):", "if x in x:",
                     "if (true & true):", "if (true == true):", "if (true):", "if not(true):", "if not  true:",
                     "if (not true):", "if (true and true and true):", "if (true xor true):", "if not:", "if not :",
                     "if (some u in all):", "if (some u in all:true):", "if (some u in all : true):", "if some u in all: true:",
                     "if (any u in all: true):", "if (some u, v in all: true):", "if (every u in 1: true):",
                     "if (some ann in all: true):", "if (some u in all: (every u in all: true)):", "if (1 < x):", "if (1 = 1):",
                     "if (1 in 1):", "if (1 <  1):", "if (1 < 1 < 1):", "if 1 < 1:", "if (1 / 1 < 1):", "if ((1 / 1) < 1):",
                     "if (count < 1):", "if (count(1) < 1):", "if (count() < 1):", "if (join(x) < 1):", "if (-1 < 1):",
                     "if ((1 | 1) < 1):", "if (1 & 1):", "if ((x + x) < 1):", "\u00e9 = all", "x = \u00e9", "x = all\u2028",
                     "x = [\u00e9]", "((((", "))))", "'", "[", "{", "(", "x = '", "x = {", "x = {u for", "x = {u for ",
                     "x = {u for u", "x = {u for [", "x = {u for [u", "x = {u for u in", "x = {u for u in all", "while",
                     "while (", "if (some ", "if (some u", "if (some u in ", "if (some u in all:", "if (some u in all: "):
            self.assertWrongBehind(line)
            self.assertWrongBehind(line, "x = ann")
            self.assertWrongBehind(line, "  pass")
            self.assertWrongBehind(line, "???")

    def test_lines_that_stand_at_the_end(self):
        for line, behind in (("while true:", "  pass"), ("if true:", "  pass")):
            self.assertBadText(3, f"known\n{line}")
            self.assertBadText(5, f"known\n{line}\n{behind}\n{line}")
            self.assertBadText(3, f"known\n{line}\nx = all")
            self.assertBadText(3, f"known\n{line}\nelse:\n  x = all")
            self.assertBadText(3, f"known\n{line}\npass")
            self.assertBadText(3, f"known\n{line}\n    pass")
            self.assertBadText(3, f"known\n{line}\n   pass")
            self.assertBadText(4, f"known\n{line}\n{behind}\n  x = all")
            self.assertBadText(4, f"known\n{line}\n{behind}\n  pass")
            self.assertBadText(4, f"known\n{line}\n{behind}\n    x = all")
            self.assertBadText(4, f"known\n{line}\n  x = all\n  pass")
            self.assertBadText(5, f"known\n{line}\n  {line}\n    pass\n   x = all")

    def test_else(self):
        start = "known\nif true:\n  x = all\nelse:"
        self.assertBadText(5, start)
        self.assertBadText(5, start + "\n  pass")
        self.assertBadText(5, start + "\nx = all")
        self.assertBadText(5, start + "\nelse:")
        self.assertBadText(6, start + "\n  x = all\nelse:\n  x = all")
        self.assertBadText(6, start + "\n  x = all\n  else:\n    x = all")
        self.assertBadText(4, "known\nwhile true:\n  x = all\nelse:\n  x = all")
        self.assertBadText(5, "known\nif true:\n  x = all\nx = all\nelse:\n  x = all")
        self.assertBadText(2, "known\nelse:\n  x = all")
        self.assertBadText(6, "known\nif true:\n  while true:\n    if true:\n      pass\n      else:\n        x = all")
        self.assertBadText(6, "known\nif true:\n  while true:\n    if true:\n      pass\n  else:\n    x = all")
        self.assertText("known\nif true:\n  while true:\n    pass\nelse:\n  x = all", (),
                        (("if", TRUE, (("while", TRUE, ()),), (("put", "x", ALL),)),))
        self.assertText("known\nif true:\n  if true:\n    pass\n  else:\n    x = all\nelse:\n  x = all", (), (
            ("if", TRUE, (("if", TRUE, (), (("put", "x", ALL),)),), (("put", "x", ALL),)),))

    def test_each_line_spoiled(self):
        lines = PROGRAM.split("\n")
        for k in range(len(lines)):
            for wrong in ("", "???", lines[k] + " ", lines[k] + "x\u00e9", " " + lines[k], "\t" + lines[k], lines[k] + "\r"):
                self.assertBadText(k + 1, "\n".join(lines[:k] + [wrong] + lines[k + 1:]))
                self.assertBadText(k + 1, "\n".join(lines[:k] + [wrong]))

    def test_each_sign_spoiled(self):
        """A text with one character put in, left out or exchanged is no text or that of another program."""
        rng = random.Random(8)
        texts = [PROGRAM] + [Program(s.known, s.rows(3, 2)).text for s in map(Sampler, range(12))]
        read = 0
        for text in texts:
            for place in range(len(text)):
                mark = rng.choice(" \n(){}[]|&-^=<>!'\",:+*0123abuxz_AZ\u00e9\t")
                for spoiled in (text[:place] + text[place + 1:], text[:place] + mark + text[place:],
                                text[:place] + mark + text[place + 1:]):
                    try:
                        found = Program.read(spoiled)
                    except BadText as error:
                        if place % 3 == 0:
                            self.assertEqual(error.line, refused_line(spoiled), spoiled)
                    else:
                        self.assertEqual(found.text, spoiled)
                        read += 1
        self.assertGreater(read, 100)

    def test_lines_exchanged(self):
        rng = random.Random(9)
        lines = PROGRAM.split("\n")
        for _ in range(300):
            mixed = lines[:1] + rng.choices(lines[1:] + ["  pass", "    x = ann", "else:", "  else:"], k=rng.randrange(1, 9))
            text = "\n".join(mixed)
            line = refused_line(text)
            if line is None:
                self.assertEqual(Program.read(text).text, text)
            else:
                self.assertBadText(line, text)


if __name__ == "__main__":
    unittest.main()
