"""The errors: 0.3."""

import unittest

from fourstrokes import errors
from fourstrokes.errors import StrokeError
from things import strange_things

FIELDS = {
    "BadBoxes": ("part",), "NoPlaces": (), "NoPicture": (), "NoNumber": (), "BadBook": ("index",),
    "TooMany": ("most",), "NoStroke": (), "NoMoment": (), "NoScript": (), "NotFree": ("number",), "NoWays": (),
    "NoWay": (), "NoRules": (), "NotKept": (), "NoWidth": (), "NotWithin": (), "NoList": (), "NoLanes": (),
    "NoFigures": (), "NoParting": (), "NoLists": ("index",), "NoStep": ("number",), "BadScene": ("part",),
    "NoContents": (), "NoScene": ("why",), "NotRunning": (), "NothingDone": (), "NoFilm": ("index",), "NoTime": (),
    "Barred": ("one", "other"), "NoBox": (), "NoRoom": (), "NoSize": (), "Full": (), "Last": (),
    "BadText": ("line",), "NoDrawing": (), "NoLine": (), "NoName": ("name",),
}


class ErrorClasses(unittest.TestCase):

    def test_the_root_derives_directly_from_value_error(self):
        self.assertEqual(StrokeError.__bases__, (ValueError,))

    def test_each_class_derives_directly_from_the_root(self):
        for name in FIELDS:
            with self.subTest(name):
                self.assertEqual(getattr(errors, name).__bases__, (StrokeError,))

    def test_each_class_is_defined_here_under_its_own_name(self):
        for name in (*FIELDS, "StrokeError"):
            with self.subTest(name):
                found = getattr(errors, name)
                self.assertEqual((found.__module__, found.__name__), ("fourstrokes.errors", name))

    def test_no_two_classes_are_one(self):
        found = [getattr(errors, name) for name in FIELDS] + [StrokeError]
        self.assertEqual(len(set(found)), len(FIELDS) + 1)

    def test_none_is_caught_as_another_one(self):
        for name, fields in FIELDS.items():
            for other in FIELDS:
                error = getattr(errors, name)(*fields)
                self.assertEqual(isinstance(error, getattr(errors, other)), name == other)

    def test_each_is_raised_and_caught(self):
        for name, fields in FIELDS.items():
            for caught in (getattr(errors, name), StrokeError, ValueError):
                with self.subTest(name), self.assertRaises(caught):
                    raise getattr(errors, name)(*fields)

    def test_fields_keep_whatever_is_passed_as_it_is(self):
        things = strange_things() + [1.5, {1, 2}, 2j, float("nan")]
        for name, fields in FIELDS.items():
            for begin in range(len(things) if fields else 0):
                passed = [things[(begin + step) % len(things)] for step in range(len(fields))]
                error = getattr(errors, name)(*passed)
                for field, thing in zip(fields, passed):
                    self.assertIs(getattr(error, field), thing, name)

    def test_fields_of_two_errors_are_apart(self):
        for name, fields in FIELDS.items():
            one = getattr(errors, name)(*[f"one {field}" for field in fields])
            other = getattr(errors, name)(*[f"other {field}" for field in fields])
            for field in fields:
                self.assertEqual((getattr(one, field), getattr(other, field)), (f"one {field}", f"other {field}"))

    def test_an_error_without_fields_is_made_with_nothing(self):
        for name, fields in FIELDS.items():
            if not fields:
                self.assertIsInstance(getattr(errors, name)(), StrokeError)

    def test_an_error_with_fields_is_not_made_with_fewer(self):
        for name, fields in FIELDS.items():
            if fields:
                with self.subTest(name), self.assertRaises(TypeError):
                    getattr(errors, name)(*fields[1:])


if __name__ == "__main__":
    unittest.main()
