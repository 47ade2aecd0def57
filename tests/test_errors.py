"""The refusals: their classes, what stands beneath what, their fields."""

import unittest

from tugline import errors

FIELDS = {
    "NoText": "line",
    "NoKnob": "number",
    "TooMany": "most",
    "NoPull": "worth",
    "Nothing": "word",
    "NoPlace": "place",
    "NoRow": "row",
}
THINGS = (0, -3, 10 ** 60, True, None, "", "back 1", (1, (2, [3])), [[], ()])


class Errors(unittest.TestCase):
    def test_all_are_beneath_tug_error(self):
        self.assertTrue(issubclass(errors.TugError, ValueError))
        for name in FIELDS:
            self.assertTrue(issubclass(getattr(errors, name), errors.TugError), name)

    def test_none_is_beneath_another(self):
        for one in FIELDS:
            for other in FIELDS:
                if one != other:
                    self.assertFalse(issubclass(getattr(errors, one), getattr(errors, other)))

    def test_field_by_place_and_by_name(self):
        for name, field in FIELDS.items():
            kind = getattr(errors, name)
            for thing in THINGS:
                self.assertIs(getattr(kind(thing), field), thing)
                self.assertIs(getattr(kind(**{field: thing}), field), thing)

    def test_can_be_raised_and_caught_as_any_refusal(self):
        for name, field in FIELDS.items():
            with self.assertRaises(errors.TugError) as caught:
                raise getattr(errors, name)(7)
            self.assertEqual(getattr(caught.exception, field), 7)

    def test_tug_error_itself(self):
        with self.assertRaises(ValueError):
            raise errors.TugError("anything")


if __name__ == "__main__":
    unittest.main()
