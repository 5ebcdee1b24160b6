"""Point [98]: the errors and what each is made from."""

import unittest

from everyname import errors

# Each error with its attributes, in the order of the point.
ATTRIBUTES = {
    "BadProgram": ("place",),
    "BadText": ("line",),
    "BadValue": ("shown",),
    "OtherStock": ("known", "other"),
    "TooMany": ("amount",),
    "NoVariable": ("variable",),
    "NotExact": ("by",),
    "EmptySpan": (),
    "NoBound": (),
    "BadRenumbering": ("numbers",),
    "BadName": ("name",),
    "BadRule": ("name", "clause"),
    "Restless": ("name", "n", "end"),
    "Broken": ("name", "n"),
    "NoSteps": (),
}


class ErrorsTest(unittest.TestCase):
    def test_base_is_a_value_error(self):
        self.assertEqual(errors.EverynameError.__bases__, (ValueError,))

    def test_fifteen_errors_stand_directly_under_the_base(self):
        self.assertEqual(len(ATTRIBUTES), 15)
        for name in ATTRIBUTES:
            self.assertEqual(getattr(errors, name).__bases__, (errors.EverynameError,), name)

    def test_no_other_error_is_there(self):
        classes = {name for name, thing in vars(errors).items() if isinstance(thing, type)}
        self.assertEqual(classes, set(ATTRIBUTES) | {"EverynameError"})

    def test_each_error_is_made_from_its_attributes_in_order(self):
        for name, attributes in ATTRIBUTES.items():
            given = [("value", k) for k in range(len(attributes))]
            error = getattr(errors, name)(*given)
            self.assertEqual([getattr(error, attribute) for attribute in attributes], given, name)
            self.assertEqual(set(vars(error)), set(attributes), name)

    def test_each_error_takes_its_attributes_by_name(self):
        for name, attributes in ATTRIBUTES.items():
            error = getattr(errors, name)(**{attribute: attribute for attribute in attributes})
            for attribute in attributes:
                self.assertEqual(getattr(error, attribute), attribute, name)

    def test_attributes_keep_the_very_object(self):
        shown = [1, 2]
        self.assertIs(errors.BadValue(shown).shown, shown)

    def test_errors_are_caught_as_the_base_and_as_value_errors(self):
        for name, attributes in ATTRIBUTES.items():
            for wider in (errors.EverynameError, ValueError):
                with self.assertRaises(wider):
                    raise getattr(errors, name)(*attributes)

    def test_an_error_is_not_caught_as_another_one(self):
        for name, attributes in ATTRIBUTES.items():
            for other in ATTRIBUTES:
                caught = isinstance(getattr(errors, name)(*attributes), getattr(errors, other))
                self.assertEqual(caught, name == other)

    def test_errors_are_shown_as_the_document_writes_them(self):
        self.assertEqual(repr(errors.Broken("few", 5)), "Broken('few', 5)")
        self.assertEqual(repr(errors.BadProgram((0,))), "BadProgram((0,))")
        self.assertEqual(repr(errors.TooMany(501)), "TooMany(501)")

    def test_wrong_number_of_attributes(self):
        for name, attributes in ATTRIBUTES.items():
            if attributes:
                with self.assertRaises(TypeError):
                    getattr(errors, name)()
                with self.assertRaises(TypeError):
                    getattr(errors, name)(*attributes, 1)


if __name__ == "__main__":
    unittest.main()
