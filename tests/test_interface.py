"""The interface of the document, as far as it is written: names, arguments and where they are defined."""

import importlib
import inspect
import unittest

CLASSES = {
    ("everyname.sizes", "Size"): {
        "__init__": "(self, row=())", "through": "(start, values)", "falling": "(many, start=0)",
        "degree": None, "__call__": "(self, n)", "signs": "(self, start=0, end=None)",
        "least_from": "(self, value)", "__neg__": "(self)",
        **{f"__{word}__": "(self, other)" for word in (
            "add", "radd", "sub", "rsub", "mul", "rmul", "pow", "rshift", "lshift", "floordiv",
            "eq", "lt", "le", "gt", "ge")}},
    ("everyname.spans", "Span"): {
        "__init__": "(self, stretches=())", "single": "(n)", "since": "(n)", "until": "(n)",
        "__invert__": "(self)", "__bool__": "(self)", "__contains__": "(self, x)", "__str__": "(self)",
        "least": "(self)", "greatest": "(self)", "many": "(self)", "after": "(self, n)",
        **{f"__{word}__": "(self, other)" for word in (
            "or", "and", "sub", "xor", "ior", "iand", "isub", "rshift", "lshift", "eq", "lt", "le", "gt", "ge")}},
}
KINDS = {"through": classmethod, "falling": staticmethod, "single": staticmethod, "since": staticmethod,
         "until": staticmethod, "degree": property}


class InterfaceTest(unittest.TestCase):
    def test_classes_define_their_methods_themselves(self):
        for (module, name), methods in CLASSES.items():
            made = getattr(importlib.import_module(module), name)
            self.assertEqual(made.__module__, module)
            for method, arguments in methods.items():
                self.assertIn(method, vars(made), name)
                self.assertIs(type(vars(made)[method]), KINDS.get(method, type(lambda: 0)), method)
                if arguments is not None:
                    self.assertEqual(str(inspect.signature(getattr(made, method))), arguments, method)

    def test_attributes_are_set_when_an_object_is_made(self):
        for (module, name), attribute in {("everyname.sizes", "Size"): "row", ("everyname.spans", "Span"): "stretches"}.items():
            made = getattr(importlib.import_module(module), name)
            self.assertEqual(vars(made()), {attribute: ()})


if __name__ == "__main__":
    unittest.main()
