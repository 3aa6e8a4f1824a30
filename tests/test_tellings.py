"""Tellings, with which the checker works: literals told and taken back."""

import unittest

from partproof.tellings import Tellings, tellings_of
from samples import C, D, DEEPEST_KEY, ONE, X, Y, call, deep, depth, names

LESS, MORE = ("below", X, Y), ("below", Y, X)


class TestTellings(unittest.TestCase):
    def test_told_and_taken_back(self):
        tellings = tellings_of(((LESS, True), (MORE, False), (LESS, False)))
        self.assertEqual(tellings.many_told(), 3)
        self.assertTrue(tellings.has(LESS, True) and tellings.has(LESS, False) and tellings.has(MORE, False))
        self.assertFalse(tellings.has(MORE, True) or tellings.has(("atmost", X, Y), True))
        self.assertIs(tellings.truth_of(tellings.key_of(LESS)), True)
        tellings.back_to(1)
        self.assertFalse(tellings.has(LESS, False) or tellings.has(MORE, False))
        self.assertIsNone(tellings.truth_of(tellings.key_of(MORE)))
        tellings.back_to(0)
        self.assertIsNone(tellings.truth_of(tellings.key_of(LESS)))
        tellings.tell(LESS, False)
        self.assertIs(tellings.truth_of(tellings.key_of(LESS)), False)

    def test_facts_with_numbers_and_with_names(self):
        tellings = Tellings()
        x, y = tellings.number_of(X), tellings.number_of(Y)
        fact = tellings.fact(names(), LESS, False)
        self.assertEqual(fact, ("atmost", ((0, 1), {y: (1, 1), x: (-1, 1)})))
        self.assertEqual(tellings.named(fact), ("atmost", ((0, 1), {Y: (1, 1), X: (-1, 1)})))
        fact = tellings.fact(names(), ("same", C, D), False)
        self.assertEqual(fact, ("other", tellings.number_of(C), tellings.number_of(D)))
        self.assertEqual(tellings.named(fact), ("other", C, D))

    def test_keys_are_not_deep(self):
        tellings = Tellings()
        tellings.tell(("atmost", deep(lambda term: call("f", term), X, 11), ONE), True)
        for key in list(tellings.signs) + list(tellings.numbering.numbers):
            self.assertLessEqual(depth(key), DEEPEST_KEY)


if __name__ == "__main__":
    unittest.main()
