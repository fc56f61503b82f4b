"""0.3: the errors, how they derive and what they keep."""

import unittest

from lookspoil import errors
from lookspoil.errors import SpoilError
from tests.samples import odd_things

WITHOUT = (
    "NoStanding", "NoStandings", "NoWay", "NoRow", "BadStore", "BadBook", "NoLayout", "NotSure", "NoName",
    "OtherStore", "NoTrace", "NoMove", "Ended", "NoNumber", "NoDenial", "NoPrices", "NoMenu", "NoLengths",
    "NoCell", "NoStandIn", "NoLog", "NoLine", "NoneLed", "NothingDone")
WITH = {
    "BadKind": "part", "BadProgram": "part", "TooLarge": "most", "TooMany": "most", "BadText": "line",
    "NoWord": "word"}


def all_errors():
    """Each own error class with one error of it."""
    made = [(getattr(errors, name), getattr(errors, name)()) for name in WITHOUT]
    return made + [(getattr(errors, name), getattr(errors, name)(7)) for name in WITH]


class ErrorTests(unittest.TestCase):
    def test_the_classes_are_those_of_the_interface(self):
        known = {name for name in vars(errors) if isinstance(getattr(errors, name), type)}
        self.assertEqual(known, {"SpoilError", *WITHOUT, *WITH})

    def test_each_derives_directly(self):
        self.assertEqual(SpoilError.__bases__, (ValueError,))
        for made, _ in all_errors():
            self.assertEqual(made.__bases__, (SpoilError,), made)

    def test_fields_keep_whatever_is_passed(self):
        for name, field in WITH.items():
            for thing in odd_things():
                self.assertIs(getattr(getattr(errors, name)(thing), field), thing)
                self.assertEqual(vars(getattr(errors, name)(thing)).keys(), {field})

    def test_those_without_fields_have_none(self):
        for name in WITHOUT:
            self.assertEqual(vars(getattr(errors, name)()), {})

    def test_caught_as_own_class_and_the_two_above_and_as_no_other(self):
        for made, error in all_errors():
            for other in [made, SpoilError, ValueError]:
                with self.assertRaises(other):
                    raise error
            for other, _ in all_errors():
                self.assertEqual(isinstance(error, other), other is made)


if __name__ == "__main__":
    unittest.main()
