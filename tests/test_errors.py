"""Promise [3]: the refusals, their fields and their family."""

import unittest

from swaykeep import errors
from swaykeep.errors import SwayError

FIELDS = {
    "NoHouse": ("what", "number"), "NoLatch": ("latch",), "NoStand": ("stand",), "NoSwell": ("swell",),
    "NoOrder": ("order",), "NoText": ("at",), "Unsettled": ("latch", "swell"), "TooMany": ("limit",),
    "NoHistory": ("place",), "NoFall": ("swell",), "NoJoin": ("what",), "NoMark": ("name",),
    "NoMend": ("what", "number"), "NotClosed": ("near", "far"), "NoSpan": ("stand",), "NoHeap": (),
    "NotAlike": ("low", "high"), "NoRow": ("at",), "NoName": ("name",), "NoSession": ("at", "why"),
}


class ErrorsTest(unittest.TestCase):
    def test_each_stands_straight_under_sway_error(self):
        self.assertEqual((ValueError,), SwayError.__bases__)
        for name in FIELDS:
            self.assertEqual((SwayError,), getattr(errors, name).__bases__, name)

    def test_no_other_class_is_there(self):
        found = [name for name, thing in vars(errors).items() if isinstance(thing, type)]
        self.assertEqual(sorted([*FIELDS, "SwayError"]), sorted(found))

    def test_each_keeps_its_fields_by_place(self):
        for name, fields in FIELDS.items():
            worths = [object() for _ in fields]
            error = getattr(errors, name)(*worths)
            self.assertEqual(list(fields), list(vars(error)), name)
            for field, worth in zip(fields, worths):
                self.assertIs(worth, getattr(error, field), name)

    def test_other_numbers_of_fields_make_none(self):
        for name, fields in FIELDS.items():
            if fields:
                with self.assertRaises(TypeError):
                    getattr(errors, name)(*range(len(fields) + 1))
                with self.assertRaises(TypeError):
                    getattr(errors, name)(*range(len(fields) - 1))

    def test_one_is_not_caught_as_another_one(self):
        for name in FIELDS:
            for other in FIELDS:
                if name != other:
                    self.assertFalse(issubclass(getattr(errors, name), getattr(errors, other)))


if __name__ == "__main__":
    unittest.main()
