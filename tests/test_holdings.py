"""Holdings: rows, what they force, and the weights that show it."""

import random
import unittest
from fractions import Fraction

from partproof.holdings import Holding
from partproof.sums import forced, settled
from reckoning import pair


def drawn_rows(draw, many):
    rows = []
    for turn in range(many):
        weights = {base: pair(draw.randint(-2, 2)) for base in draw.sample(range(4), draw.randint(0, 3))}
        weights = {base: weight for base, weight in weights.items() if weight != (0, 1)}
        word = draw.choice(["atmost", "atmost", "atmost", "below", "equal"])
        rows.append((word, (pair(draw.choice([-2, -1, 0, 0, 0, 1])), weights)))
    return rows


def as_terms(form):
    """A form with unknowns in the place of numbers."""
    return (form[0], {("unknown", "abcd"[base]): weight for base, weight in form[1].items()})


def summed(rows, weights):
    constant, sums = Fraction(0), {}
    for row, weight in weights.items():
        own, bases = rows[row][1]
        constant += Fraction(*weight) * Fraction(*own)
        for base, number in bases.items():
            sums[base] = sums.get(base, 0) + Fraction(*weight) * Fraction(*number)
    return constant, {base: number for base, number in sums.items() if number != 0}


class TestHolding(unittest.TestCase):
    def holding_of(self, rows, together):
        """A holding of rows, settled behind each of them, or behind all together."""
        holding = Holding()
        for at, (word, form) in enumerate(rows):
            holding.hold(word, form, 100 + at)
            if not together and holding.clash() is not None:
                return holding, holding.clash()
        return holding, holding.clash()

    def check_signs(self, holding, rows, weights):
        for row, weight in weights.items():
            self.assertTrue(rows[row][0] == "equal" or Fraction(*weight) > 0)
        self.assertEqual(holding.parts_of_sum(weights), tuple([(100 + row, weights[row]) for row in sorted(weights)]))

    def test_drawn_rows(self):
        draw = random.Random(3)
        clashes = 0
        for turn in range(500):
            rows = drawn_rows(draw, draw.randint(1, 8))
            told = settled([(word, as_terms(form)) for word, form in rows])
            holding, weights = self.holding_of(rows, turn % 2 == 0)
            self.assertEqual(weights is not None, told[0] == "weights")
            if weights is None:
                self.check_forced(draw, holding, rows)
                continue
            clashes += 1
            self.check_signs(holding, rows, weights)
            constant, bases = summed(rows, weights)
            self.assertEqual(bases, {})
            is_equal = all([rows[row][0] == "equal" for row in weights])
            is_below = any([rows[row][0] == "below" for row in weights])
            self.assertTrue(constant > 0 or is_equal and constant != 0 or is_below and constant == 0)
        self.assertGreater(clashes, 50)

    def check_forced(self, draw, holding, rows):
        for turn in range(3):
            form = drawn_rows(draw, 1)[0][1]
            wanted = forced([(word, as_terms(own)) for word, own in rows], as_terms(form))
            self.assertEqual(holding.is_nought(form), wanted is not None)
            if wanted is None:
                continue
            weights = holding.weights_of(form)
            for sign in (1, -1):
                side = {row: pair(sign * Fraction(*weight)) for row, weight in weights.items()}
                side = holding.without_debts(side)
                self.check_signs(holding, rows, side)
                constant, bases = summed(rows, side)
                self.assertEqual(constant, sign * Fraction(*form[0]))
                self.assertEqual(bases, {base: sign * Fraction(*weight) for base, weight in form[1].items()})

    def test_a_copy_goes_its_own_ways(self):
        holding = Holding()
        holding.hold("atmost", ((0, 1), {0: (1, 1), 1: (-1, 1)}), 0)
        self.assertIsNone(holding.clash())
        other = holding.copied()
        other.hold("atmost", ((0, 1), {0: (-1, 1), 1: (1, 1)}), 1)
        self.assertIsNone(other.clash())
        form = ((0, 1), {0: (2, 1), 1: (-2, 1)})
        self.assertTrue(other.is_nought(form))
        self.assertFalse(holding.is_nought(form))
        self.assertEqual((len(holding.rows), holding.many_equal, holding.proofs), (1, 0, []))
        self.assertEqual(other.many_equal, 2)


if __name__ == "__main__":
    unittest.main()
