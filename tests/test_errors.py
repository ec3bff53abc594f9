"""The head of the interface: the errors, their families and their fields."""

import unittest

from silentbeats import errors
from tests.base import BeatTest

FAMILIES = ("PaperError", "VoiceError", "LiveError", "TextError")
FIELDS = {
    "InvalidPaper": ("PaperError", ("word", "at")),
    "NotUsable": ("VoiceError", ("word", "at")),
    "Unmade": ("VoiceError", ("divisor",)),
    "Unsilent": ("VoiceError", ("rest",)),
    "Unfilled": ("VoiceError", ("reason",)),
    "TooMany": ("VoiceError", ("many",)),
    "InvalidEvent": ("LiveError", ("event", "reason")),
    "NothingToUndo": ("LiveError", ("steps",)),
    "InvalidText": ("TextError", ("line", "field")),
    "InvalidRow": ("TextError", ("row",)),
}


class Errors(BeatTest):
    def test_families(self):
        self.assertEqual(errors.BeatError.__bases__, (ValueError,))
        for name in FAMILIES:
            self.assertEqual(getattr(errors, name).__bases__, (errors.BeatError,))

    def test_errors_are_derived_directly(self):
        for name, (family, _) in FIELDS.items():
            self.assertEqual(getattr(errors, name).__bases__, (getattr(errors, family),))
            self.assertEqual(getattr(errors, name).__name__, name)

    def test_fields_are_the_very_objects(self):
        for name, (_, fields) in FIELDS.items():
            values = [["any value", k] for k, _ in enumerate(fields)]
            named = dict(zip(fields, values))
            for error in (getattr(errors, name)(*values), getattr(errors, name)(**named)):
                self.assertEqual(list(vars(error)), list(fields))
                for field, value in named.items():
                    self.assertIs(getattr(error, field), value)

    def test_fields_may_be_any_values(self):
        for value in (None, True, 0, -1, "", (), [], 10 ** 59):
            self.assertIs(errors.InvalidRow(value).row, value)
            self.assertIs(errors.Unmade(value).divisor, value)

    def test_exactly_the_fields(self):
        for name, (_, fields) in FIELDS.items():
            with self.assertRaises(TypeError):
                getattr(errors, name)(*fields, "one more")
            with self.assertRaises(TypeError):
                getattr(errors, name)(*fields[1:])

    def test_they_are_raised_and_caught(self):
        for name, (family, fields) in FIELDS.items():
            with self.assertRaises(getattr(errors, family)):
                raise getattr(errors, name)(*fields)


if __name__ == "__main__":
    unittest.main()
