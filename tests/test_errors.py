"""Point [4] and the section on errors of the interface."""

import inspect
import unittest

from shortlooks import errors
from tests.samples import odd_values

BASES = {"NotRight": ValueError, "NotKnown": LookupError, "NotPossible": ArithmeticError}

TOLD = {
    "NotRight": {
        "InvalidText": ["given"],
        "InvalidRow": ["given"],
        "InvalidKind": ["given"],
        "InvalidNumber": ["given"],
        "InvalidMood": ["given"],
        "InvalidSign": ["given"],
        "InvalidPaper": ["given"],
        "InvalidName": ["given"],
        "InvalidIndex": ["given"],
        "InvalidClaim": ["given"],
        "NotARule": ["given"],
        "InvalidWishes": ["index"],
        "InvalidChanges": ["index"],
    },
    "NotKnown": {"UnknownName": ["given"], "InUse": ["index"], "NothingToUndo": []},
    "NotPossible": {"OtherSigns": [], "TooMany": ["limit"], "Kept": [], "Broken": ["index", "shown"]},
}

VALUES = odd_values() + ["", "a", "signs ab\nmoods", 3000]


def told_classes():
    for base, classes in TOLD.items():
        for name, attributes in classes.items():
            yield base, name, attributes


class Errors(unittest.TestCase):
    def test_the_classes_are_those_of_the_interface(self):
        own = [name for name, value in vars(errors).items() if inspect.isclass(value)]
        self.assertEqual(sorted(own), sorted(list(BASES) + [name for base, name, attributes in told_classes()]))
        for name in own:
            self.assertEqual(getattr(errors, name).__module__, "shortlooks.errors")

    def test_base_classes(self):
        for name, builtin in BASES.items():
            with self.subTest(name):
                self.assertEqual(getattr(errors, name).__bases__, (builtin,))

    def test_each_class_is_under_its_base_class(self):
        for base, name, attributes in told_classes():
            with self.subTest(name):
                self.assertEqual(getattr(errors, name).__bases__, (getattr(errors, base),))

    def test_no_object_is_of_another_class_of_the_package(self):
        for base, name, attributes in told_classes():
            error = getattr(errors, name)(*[0 for attribute in attributes])
            of = [other for other in vars(errors)
                  if inspect.isclass(getattr(errors, other)) and isinstance(error, getattr(errors, other))]
            with self.subTest(name):
                self.assertEqual(sorted(of), sorted([base, name]))
                self.assertIsInstance(error, BASES[base])

    def test_attributes_by_position_and_by_name(self):
        for base, name, attributes in told_classes():
            for at in range(len(VALUES)):
                values = [VALUES[at - step] for step in range(len(attributes))]
                by_name = dict(zip(attributes, values))
                turned = dict(reversed(list(by_name.items())))
                made = getattr(errors, name)
                for error in (made(*values), made(**by_name), made(**turned)):
                    with self.subTest(name, at=at):
                        for attribute, value in by_name.items():
                            self.assertIs(getattr(error, attribute), value)

    def test_one_by_position_and_one_by_name(self):
        error = errors.Broken(3, shown="ab")
        self.assertEqual((error.index, error.shown), (3, "ab"))

    def test_only_the_told_attributes(self):
        for base, name, attributes in told_classes():
            error = getattr(errors, name)(*[0 for attribute in attributes])
            with self.subTest(name):
                self.assertEqual(list(vars(error)), attributes)

    def test_objects_are_true_and_equal_themselves_only(self):
        for base, name, attributes in told_classes():
            one, other = [getattr(errors, name)(*[0 for attribute in attributes]) for step in range(2)]
            with self.subTest(name):
                self.assertTrue(one)
                self.assertTrue(one == one)
                self.assertFalse(one == other)
                self.assertTrue(one != other)

    def test_raised_and_caught_by_the_base_class(self):
        for base, name, attributes in told_classes():
            with self.subTest(name):
                with self.assertRaises(getattr(errors, base)) as caught:
                    raise getattr(errors, name)(*[0 for attribute in attributes])
                self.assertIs(type(caught.exception), getattr(errors, name))


if __name__ == "__main__":
    unittest.main()
