"""The interface's refusals: their classes, and their values in fields."""

from tests.helper import Case, oddities
from triesgrow import errors

FIELDS = {
    "NoPattern": ("at",), "NoMachine": ("part", "number"), "NoText": ("row",), "NoWord": ("at",),
    "NoRoom": ("room",), "NoNumber": ("number",), "NoSign": ("sign",), "NoWay": ("at",), "NoName": ("name",),
    "TooMany": ("many",), "Doubling": ("pump",), "Growing": ("power",), "Parted": ("word",), "Bare": (), "NoRow": (),
}
UNDER = {
    "NoPattern": ValueError, "NoMachine": ValueError, "NoText": ValueError, "NoWord": ValueError,
    "NoRoom": IndexError, "NoNumber": IndexError, "NoSign": KeyError, "NoWay": LookupError, "NoName": LookupError,
    "TooMany": OverflowError, "Doubling": ArithmeticError, "Growing": ArithmeticError, "Parted": ArithmeticError,
    "Bare": RuntimeError, "NoRow": ValueError,
}
OWN = (ValueError, IndexError, KeyError, LookupError, OverflowError, ArithmeticError, RuntimeError,
       ZeroDivisionError, FloatingPointError, NotImplementedError, RecursionError, UnicodeError, TypeError)


class Errors(Case):

    def test_each_stands_under_its_class(self):
        for name, under in UNDER.items():
            for own in OWN:
                with self.subTest(name=name, own=own):
                    self.assertEqual(issubclass(getattr(errors, name), own), issubclass(under, own))

    def test_each_is_defined_in_its_file(self):
        for name in FIELDS:
            self.assertEqual(getattr(errors, name).__module__, "triesgrow.errors")

    def test_none_stands_under_another_one(self):
        for one in FIELDS:
            for other in FIELDS:
                alike = issubclass(getattr(errors, one), getattr(errors, other))
                self.assertEqual(alike, one == other, (one, other))

    def test_values_are_fields_just_as_they_are(self):
        for name, fields in FIELDS.items():
            for thing in oddities():
                values = [thing, [thing]][:len(fields)]
                refusal = getattr(errors, name)(*values)
                for field, value in zip(fields, values):
                    self.assertIs(getattr(refusal, field), value)

    def test_values_stand_in_order(self):
        refusal = errors.NoMachine("lasts", 3)
        self.assertEqual((refusal.part, refusal.number), ("lasts", 3))

    def test_values_are_handed_in_by_their_names_too(self):
        for name, fields in FIELDS.items():
            values = {field: [field] for field in fields}
            refusal = getattr(errors, name)(**values)
            for field in fields:
                self.assertIs(getattr(refusal, field), values[field])

    def test_each_is_raised_and_caught(self):
        for name, fields in FIELDS.items():
            error = getattr(errors, name)
            with self.assertRaises(UNDER[name]) as caught:
                raise error(*[0 for _ in fields])
            self.assertIs(type(caught.exception), error)
