"""The error classes: families, fields, and that the very objects are kept."""

import inspect

from tests.common import Case
from wheelwritten import errors

FAMILIES = ("PaperError", "BoardError", "LiveError", "TextError")
FIELDS = {
    "InvalidPaper": ("PaperError", ("word", "at")),
    "NotUsable": ("BoardError", ("word", "at")),
    "NoNumbering": ("BoardError", ("fault",)),
    "NoFilling": ("BoardError", ("fault",)),
    "Tied": ("BoardError", ("one", "other")),
    "Ringed": ("BoardError", ("ring",)),
    "NoOrder": ("BoardError", ("chain",)),
    "InvalidEvent": ("LiveError", ("event", "reason")),
    "NothingToUndo": ("LiveError", ("steps",)),
    "InvalidText": ("TextError", ("line", "field")),
    "InvalidRow": ("TextError", ("row",)),
}


class Errors(Case):

    def test_families(self):
        self.assertEqual(errors.WheelError.__bases__, (ValueError,))
        for name in FAMILIES:
            self.assertEqual(getattr(errors, name).__bases__, (errors.WheelError,), name)
        for name, (family, _) in FIELDS.items():
            self.assertEqual(getattr(errors, name).__bases__, (getattr(errors, family),), name)

    def test_fields(self):
        for name, (_, fields) in FIELDS.items():
            parameters = tuple(inspect.signature(getattr(errors, name)).parameters)
            self.assertEqual(parameters, fields, name)

    def test_fields_are_the_very_objects(self):
        for name, (_, fields) in FIELDS.items():
            values = [[k, {}] for k in range(len(fields))]
            by_position = getattr(errors, name)(*values)
            by_name = getattr(errors, name)(**dict(zip(fields, values)))
            for made in (by_position, by_name):
                self.assertEqual(set(vars(made)), set(fields), name)
                for field, value in zip(fields, values):
                    self.assertIs(getattr(made, field), value, name)

    def test_any_value_is_kept(self):
        for name, (_, fields) in FIELDS.items():
            for value in (True, None, -5, "x" * 100, (), ((1,), [2]), 10 ** 99, print):
                made = getattr(errors, name)(*[value for _ in fields])
                for field in fields:
                    self.assertIs(getattr(made, field), value)

    def test_number_of_fields(self):
        for name, (_, fields) in FIELDS.items():
            for many in range(4):
                if many != len(fields):
                    with self.assertRaises(TypeError):
                        getattr(errors, name)(*range(many))

    def test_can_be_raised_and_caught_by_family(self):
        for name, (family, fields) in FIELDS.items():
            with self.assertRaises(getattr(errors, family)):
                raise getattr(errors, name)(*fields)
