"""Books as a search keeps them, written out."""

import unittest

from partproof.trims import written_out

ATOMS = ["a", "b", "c", "d"]
LEAF, OTHER, THIRD = ("plain", 0), ("plain", 1), ("clash", ())


class TestWrittenOut(unittest.TestCase):
    def test_leaves_and_heads(self):
        self.assertEqual(written_out(LEAF, ATOMS), LEAF)
        self.assertEqual(written_out(("case", 1, LEAF, OTHER), ATOMS), ("case", "b", LEAF, OTHER))
        cut = ("cut", ("k", 5, 2, 3), LEAF, ("case", 0, OTHER, THIRD))
        self.assertEqual(written_out(cut, ATOMS), ("cut", "k", 5, LEAF, ("case", "a", OTHER, THIRD)))

    def test_cases_of_what_stands(self):
        inner = ("case", 1, LEAF, OTHER)
        self.assertEqual(written_out(("case", 1, inner, inner), ATOMS), ("case", "b", LEAF, OTHER))
        between = ("case", 0, inner, THIRD)
        self.assertEqual(written_out(("case", 1, between, between), ATOMS),
                         ("case", "b", ("case", "a", LEAF, THIRD), ("case", "a", OTHER, THIRD)))
        beside = ("case", 0, ("case", 1, LEAF, OTHER), ("case", 1, OTHER, LEAF))
        self.assertEqual(written_out(beside, ATOMS),
                         ("case", "a", ("case", "b", LEAF, OTHER), ("case", "b", OTHER, LEAF)))

    def test_cuts_stand_too(self):
        low, high = ("case", 2, LEAF, OTHER), ("case", 3, OTHER, LEAF)
        self.assertEqual(written_out(("cut", ("k", 5, 2, 3), low, high), ATOMS), ("cut", "k", 5, LEAF, OTHER))
        self.assertEqual(written_out(("cut", ("k", 5, 2, 3), high, low), ATOMS),
                         ("cut", "k", 5, ("case", "d", OTHER, LEAF), ("case", "c", LEAF, OTHER)))

    def test_thousands_deep(self):
        book = LEAF
        for turn in range(5000):
            book = ("cut", ("k", turn, 0, 1), book, OTHER)
        told = written_out(book, ATOMS)
        for turn in reversed(range(5000)):
            self.assertEqual(told[:3], ("cut", "k", turn))
            told = told[3]
        self.assertEqual(told, LEAF)


if __name__ == "__main__":
    unittest.main()
