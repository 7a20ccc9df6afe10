"""Points 2 and 3: the error classes and their attributes."""

import copy
import pickle
import unittest

from alsoshown import errors

ATTRIBUTES = {
    "BadName": ["name"], "NameTaken": ["name"], "NoPost": ["name"], "NoLane": ["name"],
    "Clash": ["name"], "NoPattern": ["name"],
    "EmptyWalk": [], "EmptyWord": [], "NotWalk": [], "NotOnePart": [], "NothingWanted": [], "NothingBack": [],
    "BadWalk": ["place"], "BadText": ["place"], "BadDeed": ["place"],
    "BadNumber": ["value"],
    "NoRound": ["first", "second", "side"],
    "OneRing": ["ring"], "NotSure": ["ring"],
    "NoRun": ["name"], "SameLane": ["name"], "Brought": ["name"], "StillWanted": ["name"], "NotWanted": ["name"],
    "BadWord": ["word"],
    "BadLine": ["line"],
}


class Unshowable:
    """An object that cannot be shown, compared or counted."""

    def __repr__(self):
        raise RuntimeError("not to be shown")

    __str__ = __eq__ = __len__ = __bool__ = __hash__ = __repr__


class ErrorsTest(unittest.TestCase):
    def setUp(self):
        self.classes = {name: getattr(errors, name) for name in ATTRIBUTES}

    def test_every_error_is_a_show_error_and_a_value_error(self):
        self.assertIn(ValueError, errors.ShowError.__mro__)
        for name, error in self.classes.items():
            with self.subTest(name):
                self.assertTrue(issubclass(error, errors.ShowError))
                self.assertTrue(issubclass(error, ValueError))

    def test_no_error_is_a_subclass_of_another_one(self):
        for one_name, one in self.classes.items():
            for two_name, two in self.classes.items():
                if one_name != two_name:
                    self.assertFalse(issubclass(one, two), (one_name, two_name))

    def test_each_class_is_another_one_and_defined_here(self):
        self.assertEqual(len(set(self.classes.values())), len(ATTRIBUTES))
        for name, error in self.classes.items():
            self.assertEqual((error.__module__, error.__name__), ("alsoshown.errors", name))

    def test_arguments_are_kept_in_order_whatever_they_are(self):
        odd = [Unshowable(), [], {}, None, True, 10 ** 5000, "a", ("a", "b"), 7, b"a", ValueError]
        for name, attributes in ATTRIBUTES.items():
            for k in range(len(odd)):
                arguments = [odd[(k + step) % len(odd)] for step in range(len(attributes))]
                error = self.classes[name](*arguments)
                for attribute, argument in zip(attributes, arguments):
                    self.assertIs(getattr(error, attribute), argument, name)

    def test_wrong_numbers_of_arguments_are_refused(self):
        for name, attributes in ATTRIBUTES.items():
            if attributes:
                for wrong in (len(attributes) - 1, len(attributes) + 1):
                    with self.assertRaises(TypeError, msg=name):
                        self.classes[name](*["a"] * wrong)

    def test_errors_can_be_raised_and_caught_by_the_base(self):
        for name, attributes in ATTRIBUTES.items():
            with self.assertRaises(errors.ShowError) as caught:
                raise self.classes[name](*["a"] * len(attributes))
            self.assertEqual(caught.exception.__class__.__name__, name)

    def test_errors_can_be_copied_and_shown(self):
        for name, attributes in ATTRIBUTES.items():
            arguments = ["abc"[k] for k in range(len(attributes))]
            error = self.classes[name](*arguments)
            for twin in (copy.copy(error), pickle.loads(pickle.dumps(error))):
                self.assertEqual([getattr(twin, attribute) for attribute in attributes], arguments)
            for argument in arguments:
                self.assertIn(argument, str(error))

    def test_nothing_else_stands_in_the_module(self):
        listed = [name for name in vars(errors) if isinstance(getattr(errors, name), type)]
        self.assertEqual(sorted(listed), sorted([*ATTRIBUTES, "ShowError"]))


if __name__ == "__main__":
    unittest.main()
