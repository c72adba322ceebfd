"""The errors: their bases and their one field (point 2 and the interface)."""

import unittest

from unnumbered import errors

FIELDS = {
    "BadSeries": "at",
    "BadProgram": "line",
    "BadMerge": "line",
    "BadRule": "side",
    "BadWish": "name",
    "BadEntry": "entry",
    "BadWay": "way",
    "Unlike": "name",
    "NoMend": "mend",
    "NoMatch": "number",
    "TooMany": "what",
    "NoKey": "key",
    "NoAnswer": "name",
}
ALONE = ("NoKey", "NoAnswer")


class Errors(unittest.TestCase):
    def test_there_are_thirteen_and_their_base(self):
        found = [name for name, thing in vars(errors).items() if isinstance(thing, type)]
        self.assertEqual(sorted(found), sorted([*FIELDS, "UnnumberedError"]))

    def test_base_is_a_value_error(self):
        self.assertEqual(errors.UnnumberedError.__bases__, (ValueError,))

    def test_each_stands_directly_under_its_base(self):
        for name in FIELDS:
            base = LookupError if name in ALONE else errors.UnnumberedError
            self.assertEqual(getattr(errors, name).__bases__, (base,), name)

    def test_field_is_what_it_was_made_with_by_position_and_by_name(self):
        value = ["any", ("value", None)]
        for name, field in FIELDS.items():
            error = getattr(errors, name)
            self.assertIs(getattr(error(value), field), value, name)
            self.assertIs(getattr(error(**{field: value}), field), value, name)
            self.assertEqual(list(vars(error(value))), [field], name)

    def test_exactly_one_field(self):
        for name in FIELDS:
            with self.assertRaises(TypeError):
                getattr(errors, name)()
            with self.assertRaises(TypeError):
                getattr(errors, name)(1, 2)
