"""The error classes, as the interface lists them."""

import unittest

from odd import odd_things
from twotides import errors
from twotides.errors import TidesError

FIELDS = {
    "NoList": (), "NoFraction": (), "NoNumber": (), "NoWidth": (), "BadWeb": ("part",), "TooLarge": ("most",),
    "BadBook": ("part",), "NoSorts": (), "NoFilling": (), "NoOpening": (), "TooMany": ("most",), "NoSort": (),
    "NoBreach": (), "NotCalm": (), "NotOf": (), "NoMend": (), "NoPrices": (), "NoPattern": (), "NoRests": (),
    "UnlikeWidths": (), "NotOne": (), "NotRest": (), "NoSights": ("index",), "NotRingless": (),
    "BadAnswer": ("one", "other"), "BadOpening": ("filling",), "BadText": ("line",), "NoLine": (),
    "NoName": ("name",), "NothingDone": (),
}


class ErrorsTest(unittest.TestCase):
    def test_the_base(self):
        self.assertEqual(TidesError.__bases__, (ValueError,))
        self.assertIsInstance(TidesError(), ValueError)

    def test_all_are_there_and_no_more(self):
        found = {name for name, thing in vars(errors).items() if isinstance(thing, type)}
        self.assertEqual(found, {"TidesError", *FIELDS})

    def test_each_derives_directly(self):
        for name in FIELDS:
            made = getattr(errors, name)
            self.assertEqual(made.__bases__, (TidesError,), name)
            self.assertEqual(made.__module__, "twotides.errors")

    def test_each_keeps_its_fields_whatever_is_passed(self):
        for name, fields in FIELDS.items():
            for thing in odd_things():
                told = [[thing] for _ in fields]
                error = getattr(errors, name)(*told)
                self.assertEqual(sorted(vars(error)), sorted(fields), name)
                for field, kept in zip(fields, told):
                    self.assertIs(getattr(error, field), kept)
                    self.assertIs(getattr(error, field)[0], thing)

    def test_two_fields_in_their_order(self):
        error = errors.BadAnswer((1, 1), (2, 1))
        self.assertEqual((error.one, error.other), ((1, 1), (2, 1)))

    def test_each_is_made_with_just_its_fields(self):
        for name, fields in FIELDS.items():
            with self.assertRaises(TypeError):
                getattr(errors, name)(*fields, 0)
            if fields:
                with self.assertRaises(TypeError):
                    getattr(errors, name)(*fields[1:])

    def test_an_error_is_raised_and_caught(self):
        for name, fields in FIELDS.items():
            with self.assertRaises(TidesError) as caught:
                raise getattr(errors, name)(*fields)
            self.assertEqual(vars(caught.exception), {field: field for field in fields})
            self.assertIsInstance(str(caught.exception), str)


if __name__ == "__main__":
    unittest.main()
