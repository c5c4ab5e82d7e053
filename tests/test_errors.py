"""The errors of the interface."""

import unittest

from pageclass import errors
from support import STRANGE, VALUES

NAMES = ("NoSystem", "NoProcess", "NoPages", "NotMapped", "NoRight", "PastEnd", "NoFile", "Taken", "NoLock",
         "NoCharge", "NoRoom", "NoHistory", "NoStep")


class Errors(unittest.TestCase):

    def test_the_base_is_a_value_error(self):
        self.assertEqual(errors.PageError.__bases__, (ValueError,))

    def test_thirteen_classes_straight_under_the_base(self):
        self.assertEqual(len(NAMES), 13)
        for name in NAMES:
            self.assertEqual(getattr(errors, name).__bases__, (errors.PageError,))

    def test_no_other_class(self):
        own = [name for name, value in vars(errors).items() if isinstance(value, type)]
        self.assertEqual(sorted(own), sorted(NAMES + ("PageError",)))

    def test_the_value_is_the_passed_object_itself(self):
        for name, value in VALUES.items():
            for told in STRANGE + (None, True, 0, "text", 10 ** 30, ("a", [1])):
                self.assertIs(getattr(getattr(errors, name)(told), value), told)

    def test_the_value_can_be_passed_by_its_name(self):
        for name, value in VALUES.items():
            told = [name]
            self.assertIs(getattr(getattr(errors, name)(**{value: told}), value), told)

    def test_a_value_is_necessary_and_one_only(self):
        for name in VALUES:
            with self.assertRaises(TypeError):
                getattr(errors, name)()
            with self.assertRaises(TypeError):
                getattr(errors, name)(1, 2)

    def test_str_of_those_that_take_a_string(self):
        for name in NAMES:
            if name not in VALUES:
                for text in ("", "why", "a longer one"):
                    self.assertEqual(str(getattr(errors, name)(text)), text)

    def test_each_is_caught_as_the_base(self):
        for name in NAMES:
            with self.assertRaises(errors.PageError):
                raise getattr(errors, name)("x")


if __name__ == "__main__":
    unittest.main()
