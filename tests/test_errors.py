"""[10]: the errors and their fields."""

import inspect
import unittest

from enoughcharge import errors

FAMILIES = {
    "PaperError": {"InvalidPaper": ("word", "at")},
    "ProgramError": {"NotUsable": ("word", "at"), "NeverEnough": ("run",)},
    "MachineError": {"InvalidEvent": ("event", "reason"), "NothingToUndo": ("steps",)},
    "TextError": {"InvalidText": ("line", "field"), "InvalidRow": ("row",)},
}
ERRORS = [(family, name, fields) for family, table in FAMILIES.items() for name, fields in table.items()]


class ErrorTest(unittest.TestCase):
    def test_families(self):
        self.assertEqual(errors.ChargeError.__bases__, (ValueError,))
        for family in FAMILIES:
            self.assertEqual(getattr(errors, family).__bases__, (errors.ChargeError,))
        for family, name, _ in ERRORS:
            self.assertEqual(getattr(errors, name).__bases__, (getattr(errors, family),))

    def test_no_other_classes(self):
        listed = {"ChargeError", *FAMILIES, *[name for _, name, _ in ERRORS]}
        found = {name for name, thing in vars(errors).items() if inspect.isclass(thing)}
        self.assertEqual(found, listed)

    def test_fields_are_the_very_objects(self):
        for _, name, fields in ERRORS:
            for made in ([], {}, (1, [2]), "", None, True, object()):
                values = [made] * len(fields)
                for error in (getattr(errors, name)(*values), getattr(errors, name)(**dict(zip(fields, values)))):
                    self.assertEqual(tuple(vars(error)), fields)
                    for field in fields:
                        self.assertIs(getattr(error, field), made)

    def test_each_field_has_its_own_value(self):
        for _, name, fields in ERRORS:
            error = getattr(errors, name)(*range(len(fields)))
            self.assertEqual([getattr(error, field) for field in fields], list(range(len(fields))))

    def test_exactly_its_fields(self):
        for _, name, fields in ERRORS:
            for many in range(4):
                if many != len(fields):
                    with self.assertRaises(TypeError):
                        getattr(errors, name)(*range(many))
            with self.assertRaises(TypeError):
                getattr(errors, name)(**{field: 1 for field in fields}, more=1)

    def test_raised_and_caught(self):
        for family, name, fields in ERRORS:
            for wide in ("ChargeError", family, name):
                with self.assertRaises(getattr(errors, wide)):
                    raise getattr(errors, name)(*fields)
