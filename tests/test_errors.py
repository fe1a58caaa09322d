"""The refusals: each by its name, straight under its class, made of its field alone."""

import unittest

from strokeguess import errors

FIELDS = [
    ("NoText", ValueError, "row", [0, 7]),
    ("Late", ValueError, "last", [0, 10 ** 9]),
    ("IsDown", KeyError, "finger", [0, 9]),
    ("NotDown", KeyError, "finger", [0, 9]),
    ("NoHope", KeyError, "label", ["a", "pinch"]),
    ("NoPart", KeyError, "name", ["back", None, ("a", [1])]),
    ("NoWatch", KeyError, "word", ["w", "eightlet"]),
    ("NoCount", IndexError, "most", [0, 2000]),
]


class Refusals(unittest.TestCase):
    def test_no_touch_is_made_of_nothing(self):
        self.assertEqual(errors.NoTouch.__bases__, (ValueError,))
        with self.assertRaises(errors.NoTouch):
            raise errors.NoTouch()

    def test_each_is_straight_under_its_class(self):
        for name, above, _, _ in FIELDS:
            with self.subTest(name):
                self.assertEqual(getattr(errors, name).__bases__, (above,))

    def test_each_has_its_field(self):
        for name, _, field, values in FIELDS:
            for value in values:
                with self.subTest(name, value=value):
                    made = getattr(errors, name)(value)
                    self.assertEqual(vars(made), {field: value})
                    self.assertIs(getattr(made, field), value)

    def test_each_takes_its_field_by_place_and_by_name(self):
        for name, _, field, values in FIELDS:
            with self.subTest(name):
                self.assertEqual(getattr(getattr(errors, name)(**{field: values[0]}), field), values[0])

    def test_each_is_made_of_its_field_alone(self):
        for name, _, _, values in FIELDS:
            with self.subTest(name):
                with self.assertRaises(TypeError):
                    getattr(errors, name)()
                with self.assertRaises(TypeError):
                    getattr(errors, name)(values[0], values[0])

    def test_each_is_caught_by_the_class_above(self):
        for name, above, field, values in FIELDS:
            with self.subTest(name):
                with self.assertRaises(above) as caught:
                    raise getattr(errors, name)(values[0])
                self.assertEqual(getattr(caught.exception, field), values[0])

    def test_there_are_no_others(self):
        made = [name for name, thing in vars(errors).items() if isinstance(thing, type)]
        self.assertEqual(sorted(made), sorted(["NoTouch"] + [row[0] for row in FIELDS]))


if __name__ == "__main__":
    unittest.main()
