"""The errors: what they derive from and what they carry."""

from tests.helper import FAULTS, Case
from cyclebounds.errors import Fault, Malformed, NoText, Refused


class Errors(Case):
    def test_all_are_faults_and_value_errors(self):
        for error in FAULTS:
            self.assertTrue(issubclass(error, Fault))
            self.assertTrue(issubclass(error, ValueError))

    def test_none_of_the_three_is_below_another(self):
        three = (Malformed, Refused, NoText)
        for one in three:
            for two in three:
                self.assertEqual(issubclass(one, two), one is two)

    def test_fields(self):
        self.assertEqual(Refused("large").reason, "large")
        self.assertEqual(NoText(0).at, 0)
        self.assertEqual(NoText(17).at, 17)

    def test_raised_and_caught(self):
        for error in (Malformed("x"), Refused("many"), NoText(3), Fault("y")):
            with self.assertRaises(Fault):
                raise error
