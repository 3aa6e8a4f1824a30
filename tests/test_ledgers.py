"""Ledgers, of which those steps become a clash that an end needs."""

import unittest

from partproof.ledgers import steps_to

LEDGER = [("told", "a", True), ("told", "b", True), ("bound", "k", "low"), ("sum", ((0, (1, 1)), (2, (1, 2)))),
          ("both", 1, 3), ("like", "one", "other", (None, 4)), ("chain", (5, 1), "one", "other"), ("hit", "read", None),
          ("apart", None, "one", "other"), ("apart", 3, "one", "other"), ("miss", "read", 9), ("round", 2)]


class TestStepsTo(unittest.TestCase):
    def test_what_an_end_needs(self):
        self.assertEqual(steps_to(LEDGER, ("end", 1)), (("told", "b", True), ("end", 0)))
        self.assertEqual(steps_to(LEDGER, ("end", 11, 0)),
                         (("told", "a", True), ("bound", "k", "low"), ("round", 1), ("end", 2, 0)))
        self.assertEqual(steps_to(LEDGER, ("end", 10)),
                         (("told", "a", True), ("bound", "k", "low"), ("sum", ((0, (1, 1)), (1, (1, 2)))),
                          ("apart", 2, "one", "other"), ("miss", "read", 3), ("end", 4)))
        self.assertEqual(steps_to(LEDGER, ("end", 7, 8)),
                         (("hit", "read", None), ("apart", None, "one", "other"), ("end", 0, 1)))

    def test_all_of_it(self):
        self.assertEqual(steps_to(LEDGER[:7], ("end", 6)), tuple(LEDGER[:7]) + (("end", 6),))

    def test_a_ledger_stays(self):
        kept = list(LEDGER)
        steps_to(LEDGER, ("end", 6))
        self.assertEqual(LEDGER, kept)


if __name__ == "__main__":
    unittest.main()
