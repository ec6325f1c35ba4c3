"""The row `errors` of the interface: each refusal under its family alone."""

import unittest

from gapfill import errors

FAMILIES = {
    "GapError": (
        ValueError,
        (
            "NoLetter", "NoText", "NoEntry", "NoCount", "NoStore", "NoSide", "NoAsk", "NoMake",
            "NoPause", "NoWide", "NoTruth", "NoDeed", "NoWorld", "NoRows", "NoTrace", "NoRow",
        ),
    ),
    "PlaceError": (LookupError, ("NoPlace",)),
    "StateError": (RuntimeError, ("Busy",)),
}
FIELDS = {"NoText": "why", "NoRows": "at", "NoTrace": "at", "NoPlace": "at"}


def refusals():
    """(class, family, Python's class) of every refusal."""
    for family, (python, names) in FAMILIES.items():
        for name in names:
            yield getattr(errors, name), getattr(errors, family), python


class Errors(unittest.TestCase):
    def test_each_family_stands_under_its_python_class_alone(self):
        for family, (python, _) in FAMILIES.items():
            found = getattr(errors, family)
            self.assertEqual(found.__bases__, (python,), family)
            for other in (ValueError, LookupError, RuntimeError):
                self.assertEqual(issubclass(found, other), other is python, (family, other))

    def test_each_refusal_stands_under_its_family_and_no_other_refusal(self):
        for found, family, python in refusals():
            self.assertEqual(found.__bases__, (family,), found)
            for other in (ValueError, LookupError, RuntimeError):
                self.assertEqual(issubclass(found, other), other is python, (found, other))
            for other, _, _ in refusals():
                self.assertEqual(issubclass(found, other), other is found, (found, other))

    def test_they_are_defined_in_their_file_and_are_all(self):
        names = [name for _, (_, under) in FAMILIES.items() for name in under] + list(FAMILIES)
        there = [name for name, what in vars(errors).items() if isinstance(what, type)]
        self.assertEqual(sorted(there), sorted(names))
        for name in names:
            self.assertEqual(getattr(errors, name).__module__, "gapfill.errors")

    def test_fields_are_set_on_each_object_when_it_is_created(self):
        for name, field in FIELDS.items():
            for told in ("form", 0, 7, None):
                one = getattr(errors, name)(told)
                self.assertIn(field, vars(one))
                self.assertEqual(getattr(one, field), told)
                named = getattr(errors, name)(**{field: told})
                self.assertEqual(getattr(named, field), told)

    def test_fields_are_the_object_s_own(self):
        for name, field in FIELDS.items():
            one, other = getattr(errors, name)(1), getattr(errors, name)(2)
            self.assertEqual((getattr(one, field), getattr(other, field)), (1, 2))
            self.assertNotIn(field, vars(getattr(errors, name)))

    def test_only_the_named_classes_have_fields(self):
        for found, _, _ in refusals():
            if found.__name__ not in FIELDS:
                self.assertEqual(vars(found("why")), {})

    def test_fields_without_a_word(self):
        self.assertEqual(errors.NoText().why, "form")
        for name in ("NoRows", "NoTrace", "NoPlace"):
            self.assertIsNone(getattr(errors, name)().at)

    def test_no_two_are_alike(self):
        for found, _, _ in refusals():
            self.assertFalse(found("form") == found("form"))


if __name__ == "__main__":
    unittest.main()
