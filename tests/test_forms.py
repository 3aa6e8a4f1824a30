"""Points 2 and 11: forms, their sums, multiples."""

import unittest

from partproof.forms import combined, factor, form_of
from partproof.fractions import plus as sum_of_two
from partproof.fractions import is_fraction, times
from partproof.worlds import value
from samples import (A, B, C, D, HALF, K, M, NUM_WRAPS, ONE, X, Y, ZERO, call, deep, number, plus, put, read, weigh,
                     world)

FX, AX = call("f", X), read(A, X)
TERMS = [ONE, ZERO, number(-7, 3), X, K, FX, AX, plus(), weigh(0, 1, X), weigh(-2, 3, Y), plus(X, X), plus(X, HALF, X),
         plus(X, weigh(-1, 1, X)), plus(X, Y, weigh(-1, 1, X), ONE), plus(FX, call("f", HALF), weigh(2, 1, FX)),
         weigh(3, 1, plus(X, weigh(1, 3, plus(Y, ONE)), number(1, 6))), read(put(A, X, Y), plus(X, ZERO)),
         call("h", C, D, plus(X, ZERO)), plus(call("f", plus(X, Y)), call("f", plus(Y, X))),
         weigh(0, 1, plus(FX, ONE)), plus(plus(plus(), X), weigh(5, 1, weigh(1, 5, M)), AX)]


class TestFormOf(unittest.TestCase):
    def test_written_ones(self):
        for term, constant, weights in [
                (number(-7, 3), (-7, 3), {}), (ZERO, (0, 1), {}), (plus(), (0, 1), {}), (X, (0, 1), {X: (1, 1)}),
                (K, (0, 1), {K: (1, 1)}), (FX, (0, 1), {FX: (1, 1)}), (AX, (0, 1), {AX: (1, 1)}),
                (weigh(0, 1, X), (0, 1), {}), (weigh(0, 1, plus(X, ONE)), (0, 1), {}),
                (weigh(-2, 3, plus(Y, ONE)), (-2, 3), {Y: (-2, 3)}), (plus(X, X), (0, 1), {X: (2, 1)}),
                (plus(X, Y, weigh(-1, 1, X), ONE), (1, 1), {Y: (1, 1)}), (plus(X, weigh(-1, 1, X)), (0, 1), {}),
                (plus(X, weigh(-1, 1, X), X), (0, 1), {X: (1, 1)}), (plus(ONE, HALF, number(-3, 2)), (0, 1), {}),
                (weigh(3, 1, plus(X, weigh(1, 3, plus(Y, ONE)), number(1, 6))), (3, 2), {X: (3, 1), Y: (1, 1)}),
                (weigh(1, 2, weigh(2, 1, weigh(3, 1, HALF))), (3, 2), {})]:
            self.assertEqual(form_of(term), (constant, weights))

    def test_sums_of_many(self):
        self.assertEqual(form_of(plus(*[X] * 150 + [HALF] * 99 + [Y])), ((99, 2), {X: (150, 1), Y: (1, 1)}))

    def test_bases_as_they_stand(self):
        one, other = call("f", plus(X, Y)), call("f", plus(Y, X))
        self.assertEqual(form_of(plus(one, weigh(-1, 1, other))), ((0, 1), {one: (1, 1), other: (-1, 1)}))
        base = read(put(A, X, Y), X)
        self.assertEqual(form_of(base), ((0, 1), {base: (1, 1)}))
        base = call("h", C, call("p", D), weigh(1, 1, plus(ONE)))
        self.assertEqual(form_of(weigh(1, 2, base)), ((0, 1), {base: (1, 2)}))

    def test_the_value_is_that_of_the_form(self):
        own = world()
        for term in TERMS:
            constant, weights = form_of(term)
            total = constant
            for base, weight in weights.items():
                self.assertIn(base[0], ("unknown", "call", "read"))
                self.assertTrue(is_fraction(weight) and weight != (0, 1))
                total = sum_of_two(total, times(weight, value(own, base)))
            self.assertEqual(total, value(own, term))

    def test_twelve_deep(self):
        for wrap in NUM_WRAPS[3:]:
            base = deep(wrap, X, 11)
            self.assertEqual(form_of(weigh(1, 2, base)), ((0, 1), {base: (1, 2)}))
        self.assertEqual(form_of(deep(lambda term: plus(term, term), X, 8)), ((0, 1), {X: (128, 1)}))

    def test_what_is_told_is_the_askers_own(self):
        for term in TERMS:
            wanted = (form_of(term)[0], dict(form_of(term)[1]))
            form_of(term)[1].clear()
            form_of(term)[1][X] = None
            self.assertEqual(form_of(term), wanted)


class TestCombined(unittest.TestCase):
    def test_written_ones(self):
        one, other = ((1, 1), {X: (1, 2), Y: (1, 1)}), ((-1, 3), {X: (1, 1), FX: (-2, 1)})
        self.assertEqual(combined([], []), ((0, 1), {}))
        self.assertEqual(combined([one], [(1, 1)]), one)
        self.assertEqual(combined([one], [(0, 1)]), ((0, 1), {}))
        self.assertEqual(combined([one], [(-2, 1)]), ((-2, 1), {X: (-1, 1), Y: (-2, 1)}))
        self.assertEqual(combined([one, other], [(1, 1), (3, 1)]), ((0, 1), {X: (7, 2), Y: (1, 1), FX: (-6, 1)}))
        self.assertEqual(combined([one, other], [(2, 1), (-1, 1)]), ((7, 3), {Y: (2, 1), FX: (2, 1)}))
        self.assertEqual(combined([one, one], [(1, 2), (-1, 2)]), ((0, 1), {}))
        self.assertEqual(combined([one, one, one], [(1, 1), (-1, 1), (1, 1)]), one)
        self.assertEqual(combined([((1, 2), {}), ((1, 3), {})], [(1, 1), (-3, 2)]), ((0, 1), {}))

    def test_it_is_the_form_of_the_sum(self):
        for one in TERMS:
            for other in TERMS:
                told = combined([form_of(one), form_of(other)], [(-2, 3), (5, 1)])
                self.assertEqual(told, form_of(plus(weigh(-2, 3, one), weigh(5, 1, other))))

    def test_what_is_handed_in_stays(self):
        one, other = ((1, 1), {X: (1, 2), Y: (1, 1)}), ((-1, 3), {X: (-1, 2)})
        forms, weights = [one, other], [(1, 1), (1, 1)]
        told = combined(forms, weights)
        self.assertEqual(told, ((2, 3), {Y: (1, 1)}))
        self.assertEqual((forms, weights), ([((1, 1), {X: (1, 2), Y: (1, 1)}), ((-1, 3), {X: (-1, 2)})], [(1, 1)] * 2))

    def test_what_is_told_is_the_askers_own(self):
        one = ((1, 1), {X: (1, 2)})
        told = combined([one], [(1, 1)])
        told[1].clear()
        self.assertEqual(one, ((1, 1), {X: (1, 2)}))
        told = combined([one], [(1, 1)])
        one[1][Y] = (1, 1)
        self.assertEqual(told, ((1, 1), {X: (1, 2)}))


class TestFactor(unittest.TestCase):
    def test_multiples(self):
        for term in TERMS:
            form = form_of(term)
            for number_of in [(1, 1), (-1, 1), (2, 1), (-3, 7), (10 ** 59, 7)]:
                wanted = number_of if form != ((0, 1), {}) else (1, 1)
                self.assertEqual(factor(combined([form], [number_of]), form), wanted)

    def test_none(self):
        base = ((1, 1), {X: (1, 2), Y: (1, 1)})
        for other in [((1, 1), {X: (1, 2)}), ((1, 1), {X: (1, 2), K: (1, 1)}), ((2, 1), {X: (1, 2), Y: (1, 1)}),
                      ((0, 1), {X: (1, 2), Y: (1, 1)}), ((1, 1), {X: (1, 1), Y: (1, 1)}), ((1, 1), {}),
                      ((1, 1), {X: (1, 2), Y: (-1, 1)}), ((-1, 1), {X: (1, 2), Y: (1, 1)}), ((0, 1), {}),
                      ((1, 1), {X: (1, 2), Y: (1, 1), K: (1, 1)}), ((1, 1), {read(B, X): (1, 2), Y: (1, 1)})]:
            self.assertIsNone(factor(base, other))
            self.assertIsNone(factor(other, base))

    def test_order_of_bases_does_not_matter(self):
        one, other = ((1, 1), {X: (1, 2), Y: (1, 1)}), ((-2, 1), {Y: (-2, 1), X: (-1, 1)})
        self.assertEqual(factor(one, other), (-1, 2))
        self.assertEqual(factor(other, one), (-2, 1))

    def test_without_bases(self):
        nought = ((0, 1), {})
        self.assertEqual(factor(nought, nought), (1, 1))
        for other in [((1, 1), {}), ((-1, 2), {}), ((0, 1), {X: (1, 1)}), ((1, 1), {X: (1, 1)})]:
            self.assertIsNone(factor(nought, other))
            self.assertIsNone(factor(other, nought))
        self.assertEqual(factor(((3, 1), {}), ((-2, 1), {})), (-3, 2))
        self.assertEqual(factor(((3, 1), {}), ((3, 1), {})), (1, 1))

    def test_constant_of_nought(self):
        self.assertEqual(factor(((0, 1), {X: (1, 3)}), ((0, 1), {X: (-1, 2)})), (-2, 3))
        self.assertIsNone(factor(((0, 1), {X: (1, 3)}), ((1, 1), {X: (1, 3)})))
        self.assertIsNone(factor(((1, 1), {X: (1, 3)}), ((0, 1), {X: (1, 3)})))

    def test_what_is_handed_in_stays(self):
        one, other = ((1, 1), {X: (1, 2)}), ((-2, 1), {X: (-1, 1)})
        self.assertEqual([factor(one, other) for turn in range(3)], [(-1, 2)] * 3)
        self.assertEqual((one, other), (((1, 1), {X: (1, 2)}), ((-2, 1), {X: (-1, 1)})))


if __name__ == "__main__":
    unittest.main()
