"""The errors of "The interface", crewstep/errors.py."""

import inspect
import unittest

from crewstep import errors

FAMILIES = {
    "CrewError": (ValueError, {
        "InvalidRoster": "entry", "InvalidPeople": "place", "InvalidBadge": "badge",
        "InvalidPlace": "place", "InvalidWalk": "index", "InvalidReading": "index",
        "InvalidForm": "part", "InvalidWord": "place", "InvalidCounts": "counts",
        "InvalidRank": "rank", "InvalidName": "name", "InvalidEdit": "index",
        "InvalidText": "line",
    }),
    "StateError": (RuntimeError, {
        "NotPossible": "index", "NotReachable": "reason", "SeveralCrews": "badge",
        "NameTaken": "name", "WrongShape": "name", "EmptyRing": "name", "Full": "limit",
    }),
    "MissingError": (LookupError, {"NoName": "name", "NothingToUndo": "action"}),
}

VALUES = (None, 0, 12, "a", ("counts", "b"), ("residue", 2, 0, 1), [1, None], {"a": 1}, True)


def members():
    """Each error below a family: its class, its family and its field."""
    return [
        (getattr(errors, name), getattr(errors, family), field)
        for family, (_, fields) in FAMILIES.items()
        for name, field in fields.items()
    ]


class FamiliesTest(unittest.TestCase):
    def test_each_family_is_directly_under_its_builtin_class(self):
        for family, (base, _) in FAMILIES.items():
            self.assertEqual(getattr(errors, family).__bases__, (base,), family)

    def test_each_class_is_directly_under_its_family_alone(self):
        for kind, family, _ in members():
            self.assertEqual(kind.__bases__, (family,), kind.__name__)

    def test_there_are_no_other_classes(self):
        expected = set(FAMILIES).union(*[fields for _, fields in FAMILIES.values()])
        found = {name for name, kind in vars(errors).items() if inspect.isclass(kind)}
        self.assertEqual(found, expected)

    def test_each_class_has_its_own_name_and_file(self):
        for kind, family, _ in members():
            for one in (kind, family):
                self.assertEqual(one.__module__, "crewstep.errors")
                self.assertIs(getattr(errors, one.__name__), one)


class FieldsTest(unittest.TestCase):
    def test_the_field_is_given_by_position(self):
        for kind, _, field in members():
            for value in VALUES:
                self.assertEqual(vars(kind(value)), {field: value}, kind.__name__)

    def test_the_field_is_given_by_name(self):
        for kind, _, field in members():
            for value in VALUES:
                self.assertEqual(vars(kind(**{field: value})), {field: value}, kind.__name__)

    def test_the_field_has_no_default_value(self):
        for kind, _, _ in members():
            with self.assertRaises(TypeError, msg=kind.__name__):
                kind()

    def test_there_is_no_second_field_and_no_other_name(self):
        for kind, _, _ in members():
            with self.assertRaises(TypeError, msg=kind.__name__):
                kind(None, None)
            with self.assertRaises(TypeError, msg=kind.__name__):
                kind(other=None)

    def test_the_field_is_set_on_the_object_and_not_on_the_class(self):
        for kind, _, field in members():
            first, second = kind(1), kind(2)
            self.assertEqual([getattr(first, field), getattr(second, field)], [1, 2])
            self.assertFalse(hasattr(kind, field), kind.__name__)

    def test_each_error_is_raised_and_caught_by_its_name_its_family_and_its_builtin_class(self):
        for kind, family, field in members():
            for caught in (kind, family, family.__bases__[0]):
                with self.assertRaises(caught) as raised:
                    raise kind("x")
                self.assertEqual(getattr(raised.exception, field), "x")


if __name__ == "__main__":
    unittest.main()
