"""The errors of innerasks/errors.py."""

import unittest

from innerasks import errors

LISTED = {
    ValueError: [
        ("InvalidSchema", "word"), ("InvalidRows", "word"), ("Broken", "found"), ("SameName", "word"),
        ("BadGroup", "word"), ("BadAggregate", "word"), ("BadKind", "word"), ("BadShape", "word"),
        ("NoQuestion", "place"), ("BadParameter", "word"), ("InvalidPlan", "word"), ("FreeColumns", "value"),
        ("BadColumns", "word"), ("NoRoad", "index"), ("InvalidCount", "value"), ("InvalidStore", "word"),
        ("NotFlat", "path"), ("BadWay", "path"), ("InvalidName", "value"), ("InvalidChange", "index"),
        ("WrongWidth", "index"), ("InvalidText", "line"),
    ],
    KeyError: [
        ("UnknownTable", "word"), ("UnknownColumn", "alias", "word"), ("UnknownRule", "value"),
        ("UnknownView", "value"), ("UnknownName", "value"),
    ],
    LookupError: [("Ambiguous", "word"), ("NoPlace", "path"), ("NoRule", "value", "path"), ("NoColumn", "value")],
    ArithmeticError: [("TooMany", "limit")],
    RuntimeError: [("Several",), ("InUse", "word"), ("NothingToUndo",), ("NothingToRedo",)],
}
BASES = (ValueError, KeyError, LookupError, ArithmeticError, RuntimeError, IndexError, TypeError)
FIELDS = ["x", 7, None, True, (1, "a"), [1, [2]], {"a": ()}, ("required", "t", 0, (None,)), 10 ** 59]


def listed():
    for base, entries in LISTED.items():
        for name, *fields in entries:
            yield base, name, fields


class Errors(unittest.TestCase):
    def test_fields_are_attributes(self):
        for _, name, fields in listed():
            for first in FIELDS:
                values = [first, "second"][:len(fields)]
                error = getattr(errors, name)(*values)
                for field, value in zip(fields, values):
                    self.assertIs(getattr(error, field), value, name)

    def test_fields_are_named_as_listed(self):
        for _, name, fields in listed():
            error = getattr(errors, name)(**{field: [field] for field in fields})
            self.assertEqual({field: [field] for field in fields}, vars(error), name)

    def test_class_directly_above(self):
        for base, name, _ in listed():
            self.assertEqual((base,), getattr(errors, name).__bases__, name)

    def test_none_of_the_other_classes(self):
        for base, name, _ in listed():
            for other in BASES:
                self.assertEqual(issubclass(base, other), issubclass(getattr(errors, name), other), (name, other))
            for _, other, _ in listed():
                if other != name:
                    self.assertFalse(issubclass(getattr(errors, name), getattr(errors, other)), (name, other))

    def test_all_are_defined_here(self):
        names = sorted(name for name, thing in vars(errors).items() if isinstance(thing, type))
        self.assertEqual(sorted(name for _, name, _ in listed()), names)
        for name in names:
            self.assertEqual("innerasks.errors", getattr(errors, name).__module__)

    def test_fields_are_needed(self):
        for _, name, fields in listed():
            if fields:
                self.assertRaises(TypeError, getattr(errors, name))

    def test_they_are_caught_by_their_class(self):
        for base, name, fields in listed():
            with self.assertRaises(base):
                raise getattr(errors, name)(*fields)


if __name__ == "__main__":
    unittest.main()
