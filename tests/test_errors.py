"""The classes of urlplaces.errors."""

import inspect
import unittest

from urlplaces import errors

CLASSES = {
    "BadUrl": (ValueError, ["kind", "place"]),
    "BadPart": (ValueError, ["name"]),
    "BadQuery": (ValueError, ["place"]),
    "BadEscape": (ValueError, ["place"]),
    "NoBase": (ValueError, []),
    "BadStep": (ValueError, ["place"]),
    "NoRoute": (LookupError, ["url"]),
    "NoPlace": (LookupError, []),
    "Taken": (LookupError, ["url"]),
    "NoText": (TypeError, ["value"]),
    "NoOctet": (TypeError, ["place"]),
    "TooMany": (OverflowError, ["most"]),
    "NoRow": (RuntimeError, ["row"]),
}


class Errors(unittest.TestCase):
    def test_there_are_these_classes_and_no_others(self):
        found = {name for name, value in vars(errors).items() if inspect.isclass(value)}
        self.assertEqual(found, set(CLASSES))

    def test_each_derives_directly_from_its_built_in_class_alone(self):
        for name, (base, _) in CLASSES.items():
            with self.subTest(name):
                self.assertEqual(getattr(errors, name).__bases__, (base,))
                self.assertEqual(getattr(errors, name).__module__, "urlplaces.errors")

    def test_none_is_caught_as_another_one(self):
        for name in CLASSES:
            for other in CLASSES:
                if name != other:
                    self.assertFalse(issubclass(getattr(errors, name), getattr(errors, other)))

    def test_parameters_are_the_fields(self):
        for name, (_, fields) in CLASSES.items():
            with self.subTest(name):
                self.assertEqual(list(inspect.signature(getattr(errors, name)).parameters), fields)

    def test_fields_by_place_and_by_name(self):
        for name, (base, fields) in CLASSES.items():
            values = [object() for _ in fields]
            by_place = getattr(errors, name)(*values)
            by_name = getattr(errors, name)(**dict(zip(fields, values)))
            for error in (by_place, by_name):
                with self.subTest(name):
                    self.assertIsInstance(error, base)
                    self.assertEqual(sorted(vars(error)), sorted(fields))
                    for field, value in zip(fields, values):
                        self.assertIs(getattr(error, field), value)

    def test_other_numbers_of_fields_are_refused(self):
        for name, (_, fields) in CLASSES.items():
            with self.subTest(name):
                with self.assertRaises(TypeError):
                    getattr(errors, name)(*fields, "more")
                if fields:
                    with self.assertRaises(TypeError):
                        getattr(errors, name)(*fields[1:])

    def test_they_are_raised_and_caught(self):
        for name, (base, fields) in CLASSES.items():
            with self.subTest(name):
                with self.assertRaises(base) as caught:
                    raise getattr(errors, name)(*fields)
                self.assertIs(type(caught.exception), getattr(errors, name))
                str(caught.exception)
                repr(caught.exception)


if __name__ == "__main__":
    unittest.main()
