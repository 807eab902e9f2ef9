"""The errors of the interface: base classes, fields, and the order of the constructor's arguments."""

import unittest

from dialroad import errors

LISTED = (
    ("InvalidText", ValueError, ("position",)),
    ("InvalidLine", ValueError, ("position",)),
    ("InvalidName", ValueError, ("value",)),
    ("InvalidPlace", ValueError, ("value",)),
    ("InvalidProgram", ValueError, ("value",)),
    ("DuplicateName", ValueError, ("value",)),
    ("ShiftIsZero", ValueError, ()),
    ("DifferentPrimes", ValueError, ()),
    ("DivisionByZero", ArithmeticError, ()),
    ("TooLong", ArithmeticError, ("limit",)),
    ("UnknownName", LookupError, ("value",)),
    ("NothingLeft", LookupError, ("word",)),
    ("NoSuchMoment", IndexError, ("value",)),
)


class ErrorsTest(unittest.TestCase):
    def test_each_error_stands_directly_under_its_base_class(self):
        for name, base, _ in LISTED:
            with self.subTest(name):
                error = getattr(errors, name)
                self.assertEqual(error.__bases__, (base,))
                self.assertEqual(error.__module__, "dialroad.errors")

    def test_no_other_error_is_defined(self):
        defined = {name for name in vars(errors) if not name.startswith("__")}
        self.assertEqual(defined, {name for name, _, _ in LISTED})

    def test_fields_by_position(self):
        for name, _, fields in LISTED:
            with self.subTest(name):
                given = [("field", at) for at in range(len(fields))]
                error = getattr(errors, name)(*given)
                self.assertEqual([getattr(error, field) for field in fields], given)

    def test_fields_by_name(self):
        for name, _, fields in LISTED:
            with self.subTest(name):
                given = {field: ["field", field] for field in fields}
                error = getattr(errors, name)(**given)
                self.assertEqual(vars(error), given)

    def test_the_constructor_takes_all_of_its_fields(self):
        for name, _, fields in LISTED:
            if fields:
                with self.subTest(name), self.assertRaises(TypeError):
                    getattr(errors, name)()

    def test_each_error_can_be_raised_and_caught(self):
        for name, base, fields in LISTED:
            with self.subTest(name), self.assertRaises(base) as caught:
                raise getattr(errors, name)(*[7 for _ in fields])
            self.assertEqual([getattr(caught.exception, field) for field in fields], [7 for _ in fields])

    def test_a_field_keeps_any_value(self):
        for value in (None, True, [1, (2,)], {"a": []}, "", -3):
            self.assertEqual(errors.InvalidProgram(value).value, value)


if __name__ == "__main__":
    unittest.main()
