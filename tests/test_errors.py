"""headgap/errors.py and headgap/papers.py."""

import unittest

import headgap.errors
from headgap.errors import HeadError
from headgap.papers import Verdict
from tests.checks import ANYTHING

FIELDS = {
    "BadName": ("value",), "BadLetter": ("value",), "BadText": ("line", "word"), "BadAnswer": ("value",),
    "BadConverter": ("part",), "BadGrowth": ("part",), "BadNumber": ("value",), "BadPaper": ("part",),
    "BadWord": ("value",), "BadLog": ("at",), "BadArray": ("part",), "BadDeed": ("part",), "NoState": ("value",),
    "NoStep": ("at", "state"), "NoTail": ("state",), "NoCell": ("value",), "NoText": ("value",),
    "RunOver": ("cell",), "NoRoom": ("cell",), "Nothing": (), "Taken": ("value",), "TooMany": ("what", "most"),
    "BadCommand": ("word",),
}


class Errors(unittest.TestCase):
    def test_each_is_directly_below_the_base(self):
        self.assertEqual(HeadError.__bases__, (ValueError,))
        for name in FIELDS:
            self.assertEqual(getattr(headgap.errors, name).__bases__, (HeadError,), name)

    def test_there_is_no_other_one(self):
        found = {name for name, value in vars(headgap.errors).items() if isinstance(value, type)}
        self.assertEqual(found, set(FIELDS) | {"HeadError"})

    def test_fields_by_position_and_by_name(self):
        for name, fields in FIELDS.items():
            error = getattr(headgap.errors, name)
            for value in ANYTHING:
                told = [value, "second"][:len(fields)]
                for made in (error(*told), error(**dict(zip(fields, told)))):
                    self.assertEqual(list(vars(made)), list(fields))
                    for field, worth in zip(fields, told):
                        self.assertIs(getattr(made, field), worth)

    def test_fields_are_wanted(self):
        for name, fields in FIELDS.items():
            if fields:
                with self.assertRaises(TypeError):
                    getattr(headgap.errors, name)()

    def test_they_can_be_caught_as_the_base(self):
        for name, fields in FIELDS.items():
            with self.assertRaises(HeadError):
                raise getattr(headgap.errors, name)(*fields)

    def test_errors_equal_themselves_alone(self):
        self.assertNotEqual(headgap.errors.BadName(1), headgap.errors.BadName(1))


class Verdicts(unittest.TestCase):
    def test_verdict_is_a_base(self):
        class Yes(Verdict):
            def __bool__(self):
                return True

        class No(Verdict):
            def __bool__(self):
                return False

        self.assertEqual(Verdict.__bases__, (object,))
        self.assertEqual([bool(Yes()), bool(No())], [True, False])
