"""The refusals, as the interface lists them."""

import unittest

from onewithin import errors

NAMES = ("NoWay", "NoHand", "NoPlace", "NoStanding", "NoStep", "TooMany", "NoKind", "NoTemplate", "NoMany", "NoPair",
         "NoNode", "NoName", "NoText", "NoCall", "NoKept")
FIELDS = {"NoStep": "number", "NoText": "part", "NoCall": "row", "NoKept": "name"}


class Refusals(unittest.TestCase):
    def test_all_stand_right_under_way_error(self):
        self.assertEqual(errors.WayError.__bases__, (ValueError,))
        for name in NAMES:
            self.assertEqual(getattr(errors, name).__bases__, (errors.WayError,), name)

    def test_there_are_fifteen_unlike_ones(self):
        self.assertEqual(len({getattr(errors, name) for name in NAMES}), 15)

    def test_fields_are_set_when_created(self):
        for name, field in FIELDS.items():
            for value in (None, 0, 7, "abc"):
                self.assertEqual(getattr(getattr(errors, name)(value), field), value, name)

    def test_the_others_take_words(self):
        for name in NAMES:
            if name not in FIELDS:
                with self.assertRaises(errors.WayError):
                    raise getattr(errors, name)("why")


if __name__ == "__main__":
    unittest.main()
