"""The interface of the document: names, arguments and where they are defined."""

import importlib
import inspect
import unittest

OTHER = "(self, other)"
CLASSES = {
    ("everyname.sizes", "Size"): {
        "__init__": "(self, row=())", "through": "(start, values)", "falling": "(many, start=0)",
        "degree": None, "__call__": "(self, n)", "signs": "(self, start=0, end=None)",
        "least_from": "(self, value)", "__neg__": "(self)",
        **{f"__{word}__": OTHER for word in (
            "add", "radd", "sub", "rsub", "mul", "rmul", "pow", "rshift", "lshift", "floordiv",
            "eq", "lt", "le", "gt", "ge")}},
    ("everyname.spans", "Span"): {
        "__init__": "(self, stretches=())", "single": "(n)", "since": "(n)", "until": "(n)",
        "__invert__": "(self)", "__bool__": "(self)", "__contains__": "(self, x)", "__str__": "(self)",
        "least": "(self)", "greatest": "(self)", "many": "(self)", "after": "(self, n)",
        **{f"__{word}__": OTHER for word in (
            "or", "and", "sub", "xor", "ior", "iand", "isub", "rshift", "lshift", "eq", "lt", "le", "gt", "ge")}},
    ("everyname.tallies", "Tally"): {
        "__init__": "(self, pieces)", "joined": "(parts, rest=0)", "settles": None, "last": None, "__call__": "(self, n)",
        "__neg__": "(self)", "__abs__": "(self)", "lowest": "(self)", "highest": "(self)",
        **{f"__{word}__": OTHER for word in (
            "add", "radd", "sub", "rsub", "mul", "rmul", "eq", "lt", "le", "gt", "ge")}},
    ("everyname.programs", "Program"): {
        "__init__": "(self, known=(), statements=())", "read": "(text)", "text": None, "with_known": "(self, word)",
        "then": OTHER, "__add__": OTHER, "__eq__": OTHER},
    ("everyname.runs", "Run"): {
        "count": "(self, variable)", "holds": "(self, test)", "value": "(self, variable, *, most=200)",
        "part": "(self, a, b, *, most=200)"},
    ("everyname.stretches", "Stretch"): {"__contains__": "(self, x)"},
    ("everyname.stretches", "Courses"): {
        "__init__": "(self, program, *, most=60)", "__getitem__": "(self, at)", "__len__": "(self)", "__iter__": "(self)",
        "span": "(self, test)", "least": "(self, test)", "tally": "(self, variable)", "trials": "(self)"},
    ("everyname.families", "Family"): {
        "__init__": "(self, program, e)", "of": "(known, e)", "sizes": None, "__call__": "(self, n, most=200)",
        "count": "(self, n)", "has": "(self, n, value)", "span": "(self)", "__bool__": "(self)", "__contains__": "(self, x)",
        "only": "(self, span)", "at_known": "(self, word)", "apart": "(self, other, most=200)",
        **{f"__{word}__": OTHER for word in (
            "or", "and", "sub", "xor", "ior", "iand", "isub", "ixor", "ror", "eq", "lt", "le", "gt", "ge")}},
    ("everyname.forms", "Form"): {
        "sorts": None, "size": None, "text": None, "__len__": "(self)", "__call__": "(self, n, most=200)", "family": "(self)",
        "__eq__": OTHER},
    ("everyname.pairings", "Answer"): {},
    ("everyname.pairings", "Stuck"): {
        "__init__": "(self, side, crowd, fewer, moves)", "shows": "(self, x, y, n, *, one=False, onto=False, within=None)"},
    ("everyname.world", "World"): {
        "__init__": "(self, known=())", "read": "(page)", "names": None, "page": None, "allowed": None, "do": "(self, program)",
        "__getitem__": "(self, at)", "__setitem__": "(self, at, worth)", "__contains__": "(self, x)", "__len__": "(self)",
        "__eq__": OTHER, "rule": "(self, name, clauses)", "guard": "(self, name, test, before=())", "drop": "(self, name)",
        "breaks": "(self, program)", "span": "(self, test)", "know": "(self, word)", "allow": "(self, k)", "undo": "(self)",
        "past": "(self, k)", "attempt": "(self, action)", "values_at": "(self, n)"},
}
KINDS = {"through": classmethod, "falling": staticmethod, "single": staticmethod, "since": staticmethod,
         "until": staticmethod, "joined": classmethod, "read": classmethod, "of": classmethod,
         **{name: property for name in ("degree", "settles", "last", "text", "sizes", "sorts", "size", "names", "page", "allowed")}}
FUNCTIONS = {
    "everyname.tallies": {"where": "(a, sign, b)"},
    "everyname.values": {"value_text": "(value)", "same_value": "(a, b)", "others_in": "(value)", "members_of": "(value)",
                         "renumbered": "(value, numbers)"},
    "everyname.runs": {"run": "(program, n, *, most=60)"},
    "everyname.stretches": {"alike": "(program, other, *, most=60)"},
    "everyname.groups": {"compose": "(p, q)", "inverse": "(p)", "generated": "(size, rows)", "conjugate": "(first, second)"},
    "everyname.forms": {"form": "(family)"},
    "everyname.pairings": {"pairing": "(x, y, *, one=False, onto=False, within=None)"},
    "everyname.picks": {"picks": "(s)"},
    "everyname.papers": {"why": "(world, name, n, value)", "follows": "(world, name, n, value, paper)",
                         "turn": "(world, name, n, value)", "leaves": "(world, name, family)"},
}


def made(module, name):
    return getattr(importlib.import_module(module), name)


class InterfaceTest(unittest.TestCase):
    def test_classes_define_their_methods_themselves(self):
        for (module, name), methods in CLASSES.items():
            kind = made(module, name)
            self.assertEqual(kind.__module__, module)
            for method, arguments in methods.items():
                self.assertIn(method, vars(kind), name)
                self.assertIs(type(vars(kind)[method]), KINDS.get(method, type(lambda: 0)), method)
                if arguments is not None:
                    self.assertEqual(str(inspect.signature(getattr(kind, method))), arguments, method)

    def test_functions_are_defined_in_their_files(self):
        for module, functions in FUNCTIONS.items():
            for name, arguments in functions.items():
                self.assertEqual(made(module, name).__module__, module)
                self.assertEqual(str(inspect.signature(made(module, name))), arguments, name)

    def test_trials_keep(self):
        found = made("everyname.world", "World")().attempt(lambda world, trial: trial)
        self.assertEqual(str(inspect.signature(found.keep)), "()")

    def test_attributes_are_set_when_an_object_is_made(self):
        program = made("everyname.programs", "Program")()
        for thing, attributes in (
                (made("everyname.sizes", "Size")(), {"row"}), (made("everyname.spans", "Span")(), {"stretches"}),
                (made("everyname.tallies", "Tally")([(0, 1)]), {"pieces"}), (program, {"known", "statements", "variables"}),
                (made("everyname.runs", "run")(program, 3),
                 {"program", "n", "most", "end", "entry", "length", "rounds", "course"}),
                (made("everyname.stretches", "Courses")(program), {"program", "most", "rows"}),
                (made("everyname.stretches", "Courses")(program)[0], {"lo", "hi", "course", "end", "entry", "length", "rounds"}),
                (made("everyname.families", "Family").of((), ("all",)), {"known"}),
                (made("everyname.forms", "form")(made("everyname.families", "Family").of((), ("all",))),
                 {"known", "pattern", "start", "groups", "depends"}),
                (made("everyname.pairings", "Stuck")("left", (), (), ()), {"side", "crowd", "fewer", "moves"}),
                (made("everyname.picks", "picks")(made("everyname.families", "Family").of((), ("all",))),
                 {"found", "pairs", "start", "stuck"}),
                (made("everyname.world", "World")(), set())):
            self.assertEqual({name for name in vars(thing) if not name.startswith("_")}, attributes)


if __name__ == "__main__":
    unittest.main()
