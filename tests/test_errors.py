"""The errors: their families, their fields, and how they are made and caught."""

import inspect
import unittest

from wholefaces import errors
from wholefaces.errors import LiveError, MeshError, PaperError, ShapeError, TextError

FIELDS = {
    "InvalidPaper": (PaperError, ("word", "at")),
    "NotUsable": (ShapeError, ("word", "at")),
    "NotClosed": (ShapeError, ("point", "need")),
    "StillNeeded": (ShapeError, ("point", "other")),
    "CutRoot": (ShapeError, ("root",)),
    "EmptySolid": (ShapeError, ()),
    "Refused": (ShapeError, ("chain",)),
    "NoDeed": (LiveError, ("place",)),
    "NotStanding": (LiveError, ("name",)),
    "InvalidText": (TextError, ("line", "at")),
    "InvalidForm": (TextError, ("line", "at")),
}


class Odd:
    """An object that is like nothing else, not even itself."""

    def __eq__(self, other):
        raise AssertionError("a field was compared")

    def __str__(self):
        raise AssertionError("a field was written out")

    __repr__ = __str__
    __hash__ = None


class ErrorsTest(unittest.TestCase):

    def test_families(self):
        self.assertEqual(MeshError.__bases__, (ValueError,))
        for family in (PaperError, ShapeError, LiveError, TextError):
            self.assertEqual(family.__bases__, (MeshError,))

    def test_there_are_just_these(self):
        told = {name for name, value in vars(errors).items() if inspect.isclass(value)}
        families = {"MeshError", "PaperError", "ShapeError", "LiveError", "TextError"}
        self.assertEqual(told, families | set(FIELDS))

    def test_fields(self):
        for name, (family, fields) in FIELDS.items():
            with self.subTest(name=name):
                made = getattr(errors, name)
                self.assertEqual(made.__bases__, (family,))
                values = [Odd() for _ in fields]
                turned = list(reversed(list(zip(fields, values))))
                for error in (made(*values), made(**dict(zip(fields, values))), made(**dict(turned))):
                    self.assertEqual(sorted(vars(error)), sorted(fields))
                    for field, value in zip(fields, values):
                        self.assertIs(getattr(error, field), value)

    def test_exactly_the_fields(self):
        for name, (_, fields) in FIELDS.items():
            with self.subTest(name=name):
                made = getattr(errors, name)
                with self.assertRaises(TypeError):
                    made(*range(len(fields) + 1))
                with self.assertRaises(TypeError):
                    made(**{field: 1 for field in fields}, more=1)
                if fields:
                    with self.assertRaises(TypeError):
                        made(*range(len(fields) - 1))
                    with self.assertRaises(TypeError):
                        made(**{field: 1 for field in fields[1:]})

    def test_any_values_are_kept(self):
        for value in (None, True, 1, "a b", [1, [2]], (), ((1, 2), [3]), 10 ** 59, {"a": []}):
            for name, (_, fields) in FIELDS.items():
                error = getattr(errors, name)(*[value for _ in fields])
                for field in fields:
                    self.assertIs(getattr(error, field), value)

    def test_raised_and_caught(self):
        for name, (family, fields) in FIELDS.items():
            made = getattr(errors, name)
            for caught in (made, family, MeshError, ValueError):
                with self.subTest(name=name, caught=caught):
                    try:
                        raise made(*[(k,) for k in range(len(fields))])
                    except caught as error:
                        self.assertEqual([getattr(error, field) for field in fields], [(k,) for k in range(len(fields))])

    def test_other_families_do_not_catch(self):
        families = (PaperError, ShapeError, LiveError, TextError)
        for name, (family, _) in FIELDS.items():
            for other in families:
                self.assertEqual(issubclass(getattr(errors, name), other), other is family)


if __name__ == "__main__":
    unittest.main()
