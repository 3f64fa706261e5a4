"""Point 2: errors keep their fields, and stand below one another as told."""

import inspect
import unittest

from anyseven import errors
from anyseven.papers import Denial
from tests.support import OTHER, Case

OF_PART = (
    "BadRow", "BadRule", "BadBook", "BadLot", "BadFraction", "BadRound", "BadAmounts", "BadSaying", "BadNumber",
    "BadPaper", "BadDesk", "Misfit")
FIELDS = {name: ("part",) for name in OF_PART}
FIELDS.update({name: ("value",) for name in ("Missing", "NoRule", "NoSaying", "NoName", "Twice")})
FIELDS.update({
    "Impossible": ("paper",), "TooMany": ("what", "most"), "Nothing": (), "BadText": ("line", "item"),
    "BadLine": ("line", "error")})
BELOW_MISSING = ("NoRule", "NoSaying", "NoName")
VALUES = (0, True, None, "days", [1, [2]], (1,), {}, OTHER, 10 ** 5000, Denial("no"), ValueError("x"))


class Errors(Case):

    def test_all_errors_are_there(self):
        found = {name for name, value in vars(errors).items() if inspect.isclass(value)}
        self.assertEqual(found, set(FIELDS) | {"DayError"})

    def test_bases(self):
        self.assertEqual(errors.DayError.__bases__, (ValueError,))
        for name in FIELDS:
            base = errors.Missing if name in BELOW_MISSING else errors.DayError
            self.assertEqual(getattr(errors, name).__bases__, (base,), name)

    def test_fields_by_place_and_by_name(self):
        for name, fields in FIELDS.items():
            kind = getattr(errors, name)
            for at in range(len(VALUES)):
                values = [VALUES[(at + k) % len(VALUES)] for k in range(len(fields))]
                for error in (kind(*values), kind(**dict(zip(fields, values)))):
                    self.assertEqual(list(vars(error)), list(fields))
                    for field, value in zip(fields, values):
                        self.assertIs(getattr(error, field), value)

    def test_they_are_raised_and_caught(self):
        for name, fields in FIELDS.items():
            with self.assertRaises(errors.DayError) as caught:
                raise getattr(errors, name)(*fields)
            self.assertIs(type(caught.exception), getattr(errors, name))
            self.assertIsInstance(caught.exception, ValueError)
        with self.assertRaises(errors.Missing):
            raise errors.NoRule(7)
        with self.assertRaises(errors.DayError):
            raise errors.DayError


if __name__ == "__main__":
    unittest.main()
