"""Points 2 and 8: whole numbers, fractions, what is reckoned with them."""

import unittest
from fractions import Fraction
from math import ceil, floor

from partproof.errors import NoNumber
from partproof.fractions import ceiling_of, floor_of, fraction, is_fraction, is_whole, minus, plus, times, under

HUGE = int("7" * 60)
HUGE_EVEN = int("8" * 60)
BIG = [HUGE, -HUGE, HUGE_EVEN, -HUGE_EVEN, HUGE + 1, 10 ** 59, -(10 ** 59), 10 ** 60 - 1, 1 - 10 ** 60]
TOPS = list(range(-13, 14)) + BIG
BOTTOMS = [bottom for bottom in TOPS if bottom != 0]

NO_WHOLES = [True, False, None, "", "1", "a", b"", b"1", (), (1,), (1, 1), (1, 2), [], [1], {}, {1: 1}, set(),
             frozenset(), object(), int, len, range(3)]


def pair(value):
    return (value.numerator, value.denominator)


def some_fractions():
    small = {Fraction(top, bottom) for top in range(-6, 7) for bottom in range(1, 6)}
    return sorted(small) + [Fraction(one, other) for one in BIG for other in BIG if one != other][:40]


class TestIsWhole(unittest.TestCase):
    def test_whole_numbers(self):
        for number in TOPS:
            self.assertIs(is_whole(number), True)

    def test_all_else_is_none(self):
        for thing in NO_WHOLES:
            self.assertIs(is_whole(thing), False, thing)


class TestIsFraction(unittest.TestCase):
    def test_lowest_terms(self):
        for thing in [(0, 1), (1, 1), (-1, 1), (1, 2), (-1, 2), (3, 2), (-7, 3), (HUGE, 1), (1, HUGE),
                      (HUGE, HUGE + 1), (-HUGE - 1, HUGE)]:
            self.assertIs(is_fraction(thing), True, thing)

    def test_not_in_lowest_terms(self):
        for thing in [(2, 2), (0, 2), (0, 3), (2, 4), (-2, 4), (6, 3), (-9, 3), (HUGE, HUGE), (0, HUGE),
                      (HUGE_EVEN, 2), (2, HUGE_EVEN), (2 * HUGE, 2 * HUGE + 2)]:
            self.assertIs(is_fraction(thing), False, thing)

    def test_bottom_below_one(self):
        for thing in [(0, 0), (1, 0), (-1, 0), (0, -1), (1, -1), (-1, -1), (1, -2), (-1, -2), (HUGE, -1)]:
            self.assertIs(is_fraction(thing), False, thing)

    def test_tuples_of_other_lengths(self):
        for thing in [(), (1,), (1, 1, 1), (1, 2, 3), ((1, 2),), (0, 1, 0, 1)]:
            self.assertIs(is_fraction(thing), False, thing)

    def test_truths_within(self):
        for thing in [(True, 1), (1, True), (True, True), (False, 1), (False, True), (True, 2), (3, False)]:
            self.assertIs(is_fraction(thing), False, thing)

    def test_other_things_within(self):
        for thing in NO_WHOLES:
            self.assertIs(is_fraction((thing, 1)), False, thing)
            self.assertIs(is_fraction((1, thing)), False, thing)
            self.assertIs(is_fraction((thing, thing)), False, thing)

    def test_other_kinds(self):
        for thing in [None, True, False, 0, 1, -3, "", "12", "1/2", b"12", [1, 2], [0, 1], {1: 2, 3: 4}, {1, 2},
                      frozenset((1, 2)), range(2), object()]:
            self.assertIs(is_fraction(thing), False, thing)

    def test_tuples_thousands_deep(self):
        deep = (1, 2)
        for turn in range(9000):
            deep = (deep, 2)
        self.assertIs(is_fraction(deep), False)
        self.assertIs(is_whole(deep), False)


class TestFraction(unittest.TestCase):
    def test_two_whole_numbers(self):
        for top in TOPS:
            for bottom in BOTTOMS:
                made = fraction(top, bottom)
                self.assertEqual(made, pair(Fraction(top, bottom)))
                self.assertIs(is_fraction(made), True)

    def test_signs(self):
        self.assertEqual(fraction(6, -4), (-3, 2))
        self.assertEqual(fraction(-6, -4), (3, 2))
        self.assertEqual(fraction(-6, 4), (-3, 2))
        self.assertEqual(fraction(0, -7), (0, 1))

    def test_bottom_left_out(self):
        for top in TOPS:
            self.assertEqual(fraction(top), (top, 1))

    def test_bottom_nought(self):
        for top in TOPS:
            with self.assertRaises(NoNumber):
                fraction(top, 0)

    def test_no_whole_numbers(self):
        for thing in NO_WHOLES:
            for handed in [(thing,), (thing, 1), (1, thing), (thing, thing), (thing, 0)]:
                with self.assertRaises(NoNumber):
                    fraction(*handed)


class TestReckoning(unittest.TestCase):
    def test_sums_differences_products_order(self):
        for one in some_fractions():
            for other in some_fractions():
                handed = (pair(one), pair(other))
                self.assertEqual(plus(*handed), pair(one + other))
                self.assertEqual(minus(*handed), pair(one - other))
                self.assertEqual(times(*handed), pair(one * other))
                self.assertIs(under(*handed), one < other)

    def test_written_ones(self):
        self.assertEqual(plus((1, 2), (1, 2)), (1, 1))
        self.assertEqual(plus((1, 2), (-1, 2)), (0, 1))
        self.assertEqual(minus((1, 6), (2, 3)), (-1, 2))
        self.assertEqual(times((-2, 3), (3, 2)), (-1, 1))
        self.assertEqual(times((0, 1), (3, 7)), (0, 1))
        self.assertIs(under((1, 3), (1, 2)), True)
        self.assertIs(under((-1, 3), (-1, 2)), False)
        self.assertIs(under((1, 2), (1, 2)), False)

    def test_what_was_told_is_handed_in_again(self):
        value = (1, 1)
        wanted = Fraction(1)
        for turn in range(40):
            value = times(value, (HUGE, HUGE + 1))
            wanted = wanted * Fraction(HUGE, HUGE + 1)
        self.assertEqual(plus(value, value), pair(wanted + wanted))
        self.assertEqual(fraction(value[0], value[1]), value)

    def test_next_whole_numbers(self):
        for value in some_fractions():
            self.assertEqual(floor_of(pair(value)), floor(value))
            self.assertEqual(ceiling_of(pair(value)), ceil(value))
            self.assertIs(is_whole(floor_of(pair(value))), True)
            self.assertIs(is_whole(ceiling_of(pair(value))), True)

    def test_next_whole_numbers_below_nought(self):
        self.assertEqual((floor_of((-1, 2)), ceiling_of((-1, 2))), (-1, 0))
        self.assertEqual((floor_of((-7, 3)), ceiling_of((-7, 3))), (-3, -2))
        self.assertEqual((floor_of((-4, 1)), ceiling_of((-4, 1))), (-4, -4))
        self.assertEqual((floor_of((-HUGE, 2)), ceiling_of((-HUGE, 2))), (-(HUGE // 2) - 1, -(HUGE // 2)))


if __name__ == "__main__":
    unittest.main()
