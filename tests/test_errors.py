import unittest

from samesteps import errors
from samesteps.errors import BadNet, BadPairs, BadRoom, BadSaying, StepError, TooMany


class TestErrors(unittest.TestCase):
    def test_step_error_stands_straight_under_value_error(self):
        self.assertEqual(StepError.__bases__, (ValueError,))

    def test_the_others_stand_straight_under_step_error(self):
        for error in (BadNet, BadSaying, BadRoom, BadPairs, TooMany):
            self.assertEqual(error.__bases__, (StepError,), error)

    def test_the_classes_are_defined_in_their_file(self):
        for name in ("StepError", "BadNet", "BadSaying", "BadRoom", "BadPairs", "TooMany"):
            error = getattr(errors, name)
            self.assertEqual((error.__name__, error.__module__), (name, "samesteps.errors"))

    def test_bad_net_and_bad_saying_have_the_field_at(self):
        for error in (BadNet, BadSaying):
            for at in (None, 0, 7, 199):
                self.assertIs(vars(error(at))["at"], at)
                with self.assertRaises(error) as caught:
                    raise error(at)
                self.assertIs(caught.exception.at, at)

    def test_each_can_be_caught_as_a_step_error_and_as_a_value_error(self):
        for made in (BadNet(1), BadSaying(1), BadRoom("x"), BadPairs("x"), TooMany("x")):
            self.assertIsInstance(made, StepError)
            self.assertIsInstance(made, ValueError)


if __name__ == "__main__":
    unittest.main()
