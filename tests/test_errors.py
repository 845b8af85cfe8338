"""[3] The errors."""

import unittest

from reslot import errors
from tests.helper import deep_list

FIELDS = {"NoBook": "index", "NoTimetable": "index", "NoMove": "index", "NoSlot": "slot",
          "NoAppointment": "appointment", "Frozen": "slots", "NoCertificate": "index", "TooMany": "most",
          "NotAllowed": "slot", "NoWish": "key", "NoCosts": "index"}


def kept_values():
    return [0, 7, -1, 10 ** 5000, None, True, "a text", "", (), (0, 1), [], [0, [1]], {"a": 1}, b"x", object(),
            deep_list()]


class Errors(unittest.TestCase):
    def test_classes_and_their_bases(self):
        self.assertEqual(errors.SlotError.__bases__, (ValueError,))
        for name in FIELDS:
            with self.subTest(name):
                made = getattr(errors, name)
                self.assertEqual(made.__bases__, (errors.SlotError,))
                self.assertEqual(made.__module__, "reslot.errors")

    def test_no_other_error_class(self):
        found = {name for name, value in vars(errors).items() if isinstance(value, type)}
        self.assertEqual(found, {"SlotError", *FIELDS})

    def test_field_by_position(self):
        for name, field in FIELDS.items():
            for value in kept_values():
                with self.subTest(name):
                    error = getattr(errors, name)(value)
                    self.assertIs(getattr(error, field), value)
                    self.assertEqual(list(vars(error)), [field])

    def test_field_by_keyword(self):
        for name, field in FIELDS.items():
            for value in kept_values():
                with self.subTest(name):
                    error = getattr(errors, name)(**{field: value})
                    self.assertIs(getattr(error, field), value)

    def test_exactly_one_field(self):
        for name in FIELDS:
            with self.subTest(name):
                self.assertRaises(TypeError, getattr(errors, name))
                self.assertRaises(TypeError, getattr(errors, name), 1, 2)

    def test_can_be_raised_and_shown(self):
        for name, field in FIELDS.items():
            for value in kept_values():
                with self.subTest(name):
                    with self.assertRaises(errors.SlotError) as caught:
                        raise getattr(errors, name)(**{field: value})
                    self.assertIsInstance(caught.exception, ValueError)
                    self.assertIsInstance(str(caught.exception), str)
