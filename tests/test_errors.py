"""The error classes, as the interface lists them."""

import unittest

from partproof.errors import BadNames, BadStatement, BadTerm, NoNumber, NoRow, NoText, NotTold, PartError

REFUSALS = (BadNames, BadTerm, BadStatement, NotTold, NoText, NoRow, NoNumber)


class TestErrors(unittest.TestCase):
    def test_any_refusal_is_a_value_error(self):
        self.assertEqual(PartError.__bases__, (ValueError,))

    def test_each_stands_straight_under_part_error(self):
        for refusal in REFUSALS:
            self.assertEqual(refusal.__bases__, (PartError,))

    def test_none_stands_under_another(self):
        for one in REFUSALS:
            for other in REFUSALS:
                self.assertEqual(issubclass(one, other), one is other)

    def test_each_is_raised_and_taken_by_its_name(self):
        for refusal in REFUSALS:
            with self.assertRaises(refusal):
                raise refusal("words")

    def test_names_are_those_of_the_interface(self):
        names = [refusal.__name__ for refusal in REFUSALS]
        self.assertEqual(names, "BadNames BadTerm BadStatement NotTold NoText NoRow NoNumber".split())


if __name__ == "__main__":
    unittest.main()
