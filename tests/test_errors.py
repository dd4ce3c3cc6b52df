"""[1] The errors: their places beneath one another, and what they tell."""

import unittest

from holdfills import errors
from samples import STRANGE

BY_VALUE = ["BadHolder", "BadFilling", "BadParting", "BadRanking", "BadLot", "BadIndex", "BadParameter"]
BY_PLACE = ["BadProgram", "BadStanding", "BadBook", "BadExchange", "BadLife", "BadWindow"]
ALL = BY_VALUE + BY_PLACE + ["NoRow", "TooGreat"]


class Errors(unittest.TestCase):

    def test_each_error_is_directly_beneath_hold_error(self):
        self.assertEqual(errors.HoldError.__bases__, (ValueError,))
        for name in ALL:
            self.assertEqual(getattr(errors, name).__bases__, (errors.HoldError,), name)

    def test_there_are_no_other_ones(self):
        found = [name for name in vars(errors) if not name.startswith("_")]
        self.assertEqual(sorted(found), sorted(ALL + ["HoldError"]))

    def test_the_argument_is_an_attribute(self):
        for names, attribute in ((BY_VALUE, "value"), (BY_PLACE, "place"), (["TooGreat"], "most")):
            for name in names:
                for told in STRANGE + [0, (), (0, 1), 10 ** 6000]:
                    self.assertIs(getattr(getattr(errors, name)(told), attribute), told)
                    self.assertIs(getattr(getattr(errors, name)(**{attribute: told}), attribute), told)
                with self.assertRaises(TypeError):
                    getattr(errors, name)()

    def test_no_row_tells_nothing(self):
        self.assertEqual(vars(errors.NoRow()), {})

    def test_they_are_caught_as_value_errors(self):
        with self.assertRaises(ValueError):
            raise errors.NoRow()
        with self.assertRaises(errors.HoldError):
            raise errors.TooGreat(60)


if __name__ == "__main__":
    unittest.main()
