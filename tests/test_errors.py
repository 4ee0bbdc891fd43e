"""[0.2] and the interface: the classes of splitsays/errors.py."""

import copy
import unittest

from splitsays import errors
from tests.plain import STRANGE

WITH_PATH = (errors.BadRow, errors.BadSheet, errors.BadClaim, errors.BadRules)
WITH_VALUE = ((errors.BadText, "place"), (errors.BadAct, "word"), (errors.UnknownName, "name"))
ANYTHING = STRANGE + [0, 7, -3, 10 ** 40, "", "a", "no word", "\t", (), (1, 2)]


class Bases(unittest.TestCase):
    def test_each_class_has_just_its_one_base(self):
        self.assertEqual(errors.SayError.__bases__, (ValueError,))
        for name in ("BadRow", "BadSheet", "BadClaim", "BadRules", "BadText", "TooGreat", "BadAct", "NothingDone"):
            self.assertEqual(getattr(errors, name).__bases__, (errors.SayError,), name)
        self.assertEqual(errors.NameMissing.__bases__, (LookupError,))
        self.assertEqual(errors.UnknownName.__bases__, (errors.NameMissing,))

    def test_the_two_families_stand_apart(self):
        self.assertFalse(issubclass(errors.SayError, LookupError))
        self.assertFalse(issubclass(errors.NameMissing, ValueError))
        self.assertFalse(issubclass(errors.UnknownName, errors.SayError))

    def test_nothing_else_is_an_error_there(self):
        found = sorted(name for name, value in vars(errors).items() if isinstance(value, type))
        self.assertEqual(found, [
            "BadAct", "BadClaim", "BadRow", "BadRules", "BadSheet", "BadText", "NameMissing", "NothingDone",
            "SayError", "TooGreat", "UnknownName",
        ])


class Paths(unittest.TestCase):
    def test_a_path_is_kept_as_a_tuple(self):
        for made in WITH_PATH:
            for path in ((), [], (0,), [0], (1, 2, 3), [1, 2, 3], (None, "a"), [[], {}], ([1], (2,))):
                error = made(path)
                self.assertIs(type(error.path), tuple)
                self.assertEqual(error.path, tuple(path))
                self.assertEqual(vars(error), {"path": tuple(path)})

    def test_members_of_a_path_are_kept_as_they_are(self):
        for made in WITH_PATH:
            for value in ANYTHING:
                self.assertIs(made([value]).path[0], value)
                self.assertIs(made((0, value)).path[1], value)

    def test_a_list_that_is_changed_later_does_not_change_the_path(self):
        for made in WITH_PATH:
            path = [1, 2]
            error = made(path)
            path.append(3)
            self.assertEqual(error.path, (1, 2))

    def test_the_path_that_is_passed_is_not_changed(self):
        for made in WITH_PATH:
            path = [1, [2], {"a": 3}]
            kept = copy.deepcopy(path)
            made(path)
            self.assertEqual(path, kept)


class Values(unittest.TestCase):
    def test_other_arguments_are_kept_as_they_are(self):
        for made, name in WITH_VALUE:
            for value in ANYTHING:
                error = made(value)
                self.assertIs(getattr(error, name), value)
                self.assertEqual(list(vars(error)), [name])

    def test_what_is_made_without_arguments(self):
        for made in (errors.TooGreat, errors.NothingDone):
            self.assertEqual(vars(made()), {})

    def test_they_are_raised_and_caught(self):
        for made in WITH_PATH:
            with self.assertRaises(ValueError) as caught:
                raise made((1,))
            self.assertIs(type(caught.exception), made)
        for made in (errors.TooGreat, errors.NothingDone):
            with self.assertRaises(errors.SayError):
                raise made()
        with self.assertRaises(errors.NameMissing) as caught:
            raise errors.UnknownName("m")
        self.assertEqual(caught.exception.name, "m")

    def test_a_copy_has_the_same_attributes(self):
        for error in [errors.BadRow([1]), errors.BadText(3), errors.UnknownName("m"), errors.TooGreat()]:
            self.assertEqual(vars(copy.copy(error)), vars(error))

    def test_one_can_be_shown_whatever_it_was_made_with(self):
        for value in ANYTHING:
            for made, _ in WITH_VALUE:
                self.assertIsInstance(str(made(value)) + repr(made(value)), str)
            for made in WITH_PATH:
                self.assertIsInstance(str(made([value])) + repr(made([value])), str)


if __name__ == "__main__":
    unittest.main()
