"""The error classes: promise [3] and the interface of mustoccur/errors.py."""

import inspect
import unittest

from mustoccur import errors
from tests.samples import MANY_KINDS

CLASSES = {
    "InvalidPattern": (ValueError, ["value"]),
    "InvalidText": (ValueError, ["value"]),
    "InvalidVariables": (ValueError, ["value"]),
    "InvalidValues": (ValueError, ["value"]),
    "InvalidCount": (ValueError, ["value"]),
    "InvalidChain": (ValueError, ["value"]),
    "InvalidPlace": (ValueError, ["value"]),
    "InvalidFormula": (ValueError, ["value"]),
    "InvalidRules": (ValueError, ["value"]),
    "InvalidName": (ValueError, ["value"]),
    "InvalidDeed": (ValueError, ["index"]),
    "InvalidCommand": (ValueError, ["line"]),
    "ParseError": (ValueError, ["offset"]),
    "NotFree": (ValueError, ["variables"]),
    "Avoidable": (ValueError, ["pattern"]),
    "RankTooSmall": (LookupError, ["rank"]),
    "NoBlock": (LookupError, ["first", "second"]),
    "UnknownName": (KeyError, ["name"]),
    "DuplicateName": (KeyError, ["name"]),
    "NoMoment": (IndexError, ["asked"]),
    "TooLarge": (OverflowError, ["limit"]),
    "NothingToUndo": (RuntimeError, []),
    "NothingToRedo": (RuntimeError, []),
}


class ErrorClasses(unittest.TestCase):

    def test_direct_subclasses(self):
        for name, (base, _) in CLASSES.items():
            with self.subTest(name=name):
                self.assertEqual(getattr(errors, name).__bases__, (base,))
                self.assertEqual(getattr(errors, name).__module__, "mustoccur.errors")

    def test_no_other_class(self):
        found = [name for name, thing in vars(errors).items() if inspect.isclass(thing)]
        self.assertEqual(sorted(found), sorted(CLASSES))

    def test_fields_by_position(self):
        for name, (_, fields) in CLASSES.items():
            for value in MANY_KINDS:
                with self.subTest(name=name, value=value):
                    given = [[value, field] for field in fields]
                    error = getattr(errors, name)(*given)
                    for field, thing in zip(fields, given):
                        self.assertIs(getattr(error, field), thing)

    def test_the_very_values(self):
        for name, (_, fields) in CLASSES.items():
            for value in MANY_KINDS:
                with self.subTest(name=name, value=value):
                    by_place = getattr(errors, name)(*[value for _ in fields])
                    by_name = getattr(errors, name)(**{field: value for field in fields})
                    for field in fields:
                        self.assertIs(getattr(by_place, field), value)
                        self.assertIs(getattr(by_name, field), value)

    def test_fields_by_name_in_any_order(self):
        for name, (_, fields) in CLASSES.items():
            with self.subTest(name=name):
                given = {field: [field] for field in reversed(fields)}
                error = getattr(errors, name)(**given)
                for field in fields:
                    self.assertIs(getattr(error, field), given[field])

    def test_exactly_these_fields(self):
        for name, (_, fields) in CLASSES.items():
            with self.subTest(name=name):
                self.assertEqual(list(vars(getattr(errors, name)(*fields))), fields)
                self.assertRaises(TypeError, getattr(errors, name), *fields, 1)
                if fields:
                    self.assertRaises(TypeError, getattr(errors, name), *fields[1:])

    def test_raised_and_caught_as_the_python_error(self):
        for name, (base, fields) in CLASSES.items():
            with self.subTest(name=name):
                with self.assertRaises(base) as caught:
                    raise getattr(errors, name)(*fields)
                self.assertEqual([getattr(caught.exception, field) for field in fields], fields)

    def test_equal_to_no_value_of_another_class(self):
        things = [getattr(errors, name)(*fields) for name, (_, fields) in CLASSES.items()]
        for at, thing in enumerate(things):
            for other in MANY_KINDS + things[:at] + things[at + 1:]:
                self.assertFalse(thing == other)
                self.assertTrue(thing != other)


if __name__ == "__main__":
    unittest.main()
