"""Points 2, 3, 13, 14 and 23: rows, a point or weights; forms that are forced; spread points."""

import copy
import random
import unittest
from fractions import Fraction
from unittest import mock

from partproof.fractions import is_fraction
from partproof.sums import forced, settled, spread
from reckoning import bases_of, form, pair, summed, times, value_of
from samples import A, C, D, K, M, X, Y, call, deep, plus, put, read, unknown

Z = unknown("z")
BASES = [X, Y, Z, K, call("f", X), read(A, call("f", Y)), call("h", C, D, plus(X, Y)), read(put(A, X, Y), M)]
NOUGHT = ((0, 1), {})


def row_holds(word, number):
    return {"atmost": number <= 0, "below": number < 0, "equal": number == 0}[word]


class SumsCase(unittest.TestCase):
    def check_point(self, rows, point, forms=()):
        self.assertIsInstance(point, dict)
        self.assertEqual(set(point), bases_of([own for word, own in rows]) | bases_of(forms))
        self.assertTrue(all(is_fraction(number) for number in point.values()), point)
        for word, own in rows:
            self.assertTrue(row_holds(word, value_of(own, point)), (rows, point))

    def check_weights(self, rows, weights):
        """Weights of rows as such: one for each, from 0 on where a row is not equal."""
        self.assertIsInstance(weights, list)
        self.assertEqual(len(weights), len(rows))
        for (word, own), weight in zip(rows, weights):
            self.assertTrue(is_fraction(weight), weight)
            self.assertTrue(word == "equal" or weight[0] >= 0, (rows, weights))

    def check_settled(self, rows):
        """Checks whatever is told of rows, and tells its word."""
        before = copy.deepcopy(rows)
        word, told = settled(rows)
        self.assertEqual(rows, before)
        if word == "point":
            self.check_point(rows, told)
        else:
            self.assertEqual(word, "weights")
            self.check_weights(rows, told)
            constant, sums = summed(rows, told)
            self.assertEqual(sums, {})
            strict = any(kind == "below" and weight[0] > 0 for (kind, own), weight in zip(rows, told))
            self.assertTrue(constant > 0 or constant == 0 and strict, (rows, told))
        return word

    def check_forced(self, rows, own):
        """Checks whatever is told of a form, and tells whether it is forced."""
        before = copy.deepcopy((rows, own))
        told = forced(rows, own)
        self.assertEqual((rows, own), before)
        if told is None:
            # Just then rows with the form above 0, or below it, have a point.
            sides = [settled(rows + [("below", times(own, sign))])[0] for sign in (1, -1)]
            self.assertIn("point", sides)
            return False
        self.assertIsInstance(told, tuple)
        self.assertEqual(len(told), 2)
        for sign, weights in zip((1, -1), told):
            self.check_weights(rows, weights)
            constant, sums = summed(rows, weights)
            self.assertEqual(sums, {base: sign * Fraction(*weight) for base, weight in own[1].items()})
            self.assertGreaterEqual(constant, sign * Fraction(*own[0]))
        return True

    def check_spread(self, rows, forms):
        before = copy.deepcopy((rows, forms))
        point = spread(rows, forms)
        self.assertEqual((rows, forms), before)
        self.check_point(rows, point, forms)
        for own in forms:
            self.assertNotEqual(value_of(own, point), 0, (rows, own, point))


def chance_form(chance, bases, most):
    weights = {base: pair(Fraction(chance.randint(-most, most), chance.choice([1, 1, 1, 2, 3])))
               for base in bases if chance.random() < 0.6}
    constant = pair(Fraction(chance.randint(-most, most), chance.choice([1, 1, 2])))
    return (constant, {base: weight for base, weight in weights.items() if weight != (0, 1)})


def chance_rows(chance, many, most):
    """Some rows of some bases; some of them again, or turned about, with something to spare or lacking."""
    bases = BASES[:chance.randint(1, len(BASES))]
    rows = [(chance.choice(["atmost", "atmost", "below", "equal"]), chance_form(chance, bases, most))
            for turn in range(chance.randint(0, many))]
    for turn in range(chance.randint(0, 3) if rows else 0):
        word, own = chance.choice(rows)
        constant, weights = times(own, chance.choice([1, -1, -1, Fraction(-1, 2)]))
        more = chance.choice([0, 0, 1, -1])
        rows.append((chance.choice(["atmost", "below", "equal"]), (pair(Fraction(*constant) + more), weights)))
    chance.shuffle(rows)
    return rows


class TestSettled(SumsCase):
    def test_no_rows(self):
        self.assertEqual(settled([]), ("point", {}))

    def test_rows_without_bases(self):
        for word, number, wanted in [("atmost", 0, "point"), ("atmost", -1, "point"), ("atmost", 1, "weights"),
                                     ("atmost", Fraction(1, 9), "weights"), ("below", -1, "point"),
                                     ("below", 0, "weights"), ("below", 1, "weights"), ("equal", 0, "point"),
                                     ("equal", 1, "weights"), ("equal", -1, "weights")]:
            self.assertEqual(self.check_settled([(word, form(number))]), wanted)
            self.assertEqual(self.check_settled([("atmost", form(-1)), (word, form(number)), ("equal", form(0))]),
                             wanted)

    def test_one_row(self):
        for word in ("atmost", "below", "equal"):
            for own in [form(3, x=1), form(-3, x=-2), form(Fraction(1, 7), x=Fraction(-2, 3), y=5), form(0, k=1)]:
                self.assertEqual(self.check_settled([(word, own)]), "point")

    def test_same_row_twice(self):
        for word in ("atmost", "below", "equal"):
            row = (word, form(2, x=1, y=-3))
            self.assertEqual(self.check_settled([row, row]), "point")
            self.assertEqual(self.check_settled([row, row, ("below", form(-2, x=-1, y=3))]), "weights")

    def test_rows_turned_about(self):
        own = form(2, x=1, y=-3)
        for one, other, more, wanted in [
                ("atmost", "atmost", 0, "point"), ("atmost", "atmost", -1, "point"), ("atmost", "atmost", 1, "weights"),
                ("atmost", "below", 0, "weights"), ("below", "atmost", 0, "weights"), ("below", "below", 0, "weights"),
                ("below", "below", -1, "point"), ("below", "atmost", -1, "point"), ("below", "below", 1, "weights"),
                ("equal", "atmost", 0, "point"), ("equal", "atmost", 1, "weights"), ("equal", "atmost", -1, "point"),
                ("equal", "below", 0, "weights"), ("equal", "below", -1, "point"), ("equal", "equal", 0, "point"),
                ("equal", "equal", 1, "weights"), ("equal", "equal", -1, "weights"), ("below", "equal", 0, "weights"),
                ("atmost", "equal", Fraction(1, 60), "weights"), ("atmost", "equal", Fraction(-1, 60), "point")]:
            for many in (1, Fraction(2, 3)):
                constant, weights = times(own, -many)
                rows = [(one, own), (other, (pair(Fraction(*constant) + more), weights))]
                self.assertEqual(self.check_settled(rows), wanted, rows)
                self.assertEqual(self.check_settled(rows[::-1]), wanted, rows)

    def test_circles(self):
        # x at most y, y at most z, z at most x, with something added to one.
        for words, more, wanted in [(("atmost",) * 3, 0, "point"), (("atmost",) * 3, 1, "weights"),
                                    (("atmost", "below", "atmost"), 0, "weights"), (("equal",) * 3, 0, "point"),
                                    (("below",) * 3, -1, "point"), (("equal", "equal", "atmost"), -2, "point"),
                                    (("equal",) * 3, Fraction(-1, 9), "weights")]:
            forms = [form(more, x=1, y=-1), form(0, y=1, z=-1), form(0, z=1, x=-1)]
            self.assertEqual(self.check_settled(list(zip(words, forms))), wanted)

    def test_equal_rows_with_weights_below_0(self):
        rows = [("equal", form(-1, x=1)), ("equal", form(-2, x=1))]
        self.assertEqual(self.check_settled(rows), "weights")
        rows = [("equal", form(0, x=1, y=1)), ("equal", form(0, x=1, y=-1)), ("below", form(0, y=-1))]
        self.assertEqual(self.check_settled(rows), "weights")
        word, weights = settled(rows)
        self.assertLess(weights[1][0] * weights[0][0], 0)

    def test_several_figures(self):
        big = 10 ** 59 + 7
        for sign in (1, -1):
            rows = [("atmost", form(sign * big, x=big, y=Fraction(1, big))), ("equal", form(Fraction(-sign, big), y=3)),
                    ("below", form(-12345, x=-Fraction(987654321, 1234567)))]
            self.check_settled(rows)
            self.check_settled(rows + [("below", form(Fraction(1, big), x=1))])
        self.assertEqual(self.check_settled([("atmost", form(-big, x=big)), ("atmost", form(big + 1, x=-big))]),
                         "weights")
        self.assertEqual(self.check_settled([("below", form(-big, x=big)), ("below", form(big - 1, x=-big))]), "point")

    def test_small_room(self):
        # Nought below x below a millionth, and many belows beside.
        rows = [("below", form(0, x=-1)), ("below", form(Fraction(-1, 10 ** 6), x=1)), ("below", form(0, y=1, x=-1)),
                ("below", form(0, y=-1)), ("below", form(0, z=1, y=-1)), ("below", form(0, z=-1))]
        self.assertEqual(self.check_settled(rows), "point")
        self.assertEqual(self.check_settled(rows + [("atmost", form(0, x=1, z=-1))]), "weights")

    def test_deep_bases(self):
        base = deep(lambda term: call("f", term), X, 12)
        other = deep(lambda term: call("f", term), Y, 12)
        rows = [("below", ((0, 1), {base: (1, 1), other: (-1, 1)})), ("equal", ((-3, 1), {other: (2, 1)}))]
        self.assertEqual(self.check_settled(rows), "point")
        self.assertEqual(self.check_settled(rows + [("atmost", ((3, 2), {base: (-1, 1)}))]), "weights")

    def test_bases_as_they_stand(self):
        one, other = call("f", plus(X, Y)), call("f", plus(Y, X))
        rows = [("equal", ((1, 1), {one: (1, 1)})), ("equal", ((2, 1), {other: (1, 1)}))]
        self.assertEqual(self.check_settled(rows), "point")

    def test_many_rows_by_a_loop(self):
        chance = random.Random(13)
        words = [self.check_settled(chance_rows(chance, 9, 4)) for turn in range(600)]
        self.assertGreater(words.count("point"), 150)
        self.assertGreater(words.count("weights"), 150)
        for turn in range(60):
            self.check_settled(chance_rows(chance, 8, 10 ** 7))

    def test_slow_choices_alone(self):
        chance = random.Random(14)
        with mock.patch("partproof.tables.QUICK_TURNS", 0):
            words = [self.check_settled(chance_rows(chance, 12, 4)) for turn in range(300)]
        self.assertEqual(set(words), {"point", "weights"})

    def test_large_ones(self):
        chance = random.Random(15)
        bases = [unknown("v" * (turn // 8 + 1) + "abcdefgh"[turn % 8]) for turn in range(40)]
        for turn in range(4):
            point = {base: (chance.randint(-9, 9), 1) for base in bases}
            rows = []
            for many in range(80):
                constant, weights = chance_form(chance, chance.sample(bases, 4), 9)
                number = value_of((constant, weights), point)
                # Each row holds by the point, some just so.
                rows.append(("atmost", (pair(Fraction(*constant) - number - chance.randint(0, 2)), weights)))
            self.assertEqual(self.check_settled(rows), "point")
            self.check_settled(rows + [("below", times(rows[turn][1], -1)) for turn in range(40)])

    def test_what_is_told_is_the_askers_own(self):
        rows = [("atmost", form(1, x=1)), ("below", form(0, y=1))]
        wanted = settled(rows)
        told = settled(rows)
        told[1].clear()
        self.assertEqual(settled(rows), wanted)
        rows.append(("atmost", form(0, x=-1)))
        wanted = settled(rows)
        settled(rows)[1].append(None)
        self.assertEqual(settled(rows), wanted)
        self.assertEqual(wanted[0], "weights")


class TestForced(SumsCase):
    def test_form_without_bases(self):
        for rows in [[], [("atmost", form(1, x=1))], [("equal", form(0, x=1)), ("below", form(-1))]]:
            self.assertTrue(self.check_forced(rows, NOUGHT))
            self.assertFalse(self.check_forced(rows, form(1)))
            self.assertFalse(self.check_forced(rows, form(Fraction(-1, 3))))

    def test_equal_rows(self):
        rows = [("equal", form(-2, x=1, y=1)), ("equal", form(-1, x=1, y=-1))]
        for own in [form(-2, x=1, y=1), form(2, x=-1, y=-1), form(-3, x=2), form(Fraction(-1, 2), y=1), form(-1, y=2)]:
            self.assertTrue(self.check_forced(rows, own))
        for own in [form(-2, x=1), form(0, y=1), form(1, y=2), form(0, z=1), form(-3, x=2, z=1), form(1)]:
            self.assertFalse(self.check_forced(rows, own))

    def test_atmost_both_ways(self):
        rows = [("atmost", form(0, x=1, y=-1)), ("atmost", form(0, y=1, z=-1))]
        self.assertFalse(self.check_forced(rows, form(0, x=1, y=-1)))
        rows.append(("atmost", form(0, z=1, x=-1)))
        for own in [form(0, x=1, y=-1), form(0, x=1, z=-1), form(0, y=-7, z=7), form(0, x=1, y=1, z=-2)]:
            self.assertTrue(self.check_forced(rows, own))
        for own in [form(1, x=1, y=-1), form(0, x=1), form(0, x=1, y=1, z=-1)]:
            self.assertFalse(self.check_forced(rows, own))
        rows[0] = ("atmost", form(-1, x=1, y=-1))
        self.assertFalse(self.check_forced(rows, form(0, x=1, z=-1)))

    def test_belows_beside(self):
        rows = [("below", form(0, x=1)), ("below", form(-1, x=-1)), ("equal", form(0, x=1, y=-1)),
                ("atmost", form(0, z=1, y=-2)), ("atmost", form(0, z=-1, x=2))]
        for own in [form(0, x=1, y=-1), form(0, z=1, x=-2), form(0, z=1, x=-1, y=-1)]:
            self.assertTrue(self.check_forced(rows, own))
        for own in [form(0, x=1), form(Fraction(1, 2), x=1), form(1, x=1), form(0, z=1), form(0, z=1, x=-1)]:
            self.assertFalse(self.check_forced(rows, own))

    def test_a_bound_that_is_reached_is_not_forced(self):
        rows = [("atmost", form(0, x=1)), ("atmost", form(0, y=-1))]
        for own in [form(0, x=1), form(0, y=1), form(0, x=1, y=-1), form(0, x=1, y=1)]:
            self.assertFalse(self.check_forced(rows, own))

    def test_many_by_a_loop(self):
        chance = random.Random(16)
        told = []
        for turn in range(500):
            rows = chance_rows(chance, 7, 3)
            if settled(rows)[0] == "weights":
                continue
            forms = [chance_form(chance, BASES[:4], 2)] + [own for word, own in rows]
            if rows:
                one, other = chance.choice(rows)[1], chance.choice(rows)[1]
                constant, sums = summed([("equal", one), ("equal", other)], [(2, 1), (-3, 2)])
                forms.append((pair(constant), {base: pair(weight) for base, weight in sums.items()}))
            told += [self.check_forced(rows, own) for own in forms]
        self.assertGreater(told.count(True), 100)
        self.assertGreater(told.count(False), 100)

    def test_what_is_told_is_the_askers_own(self):
        for rows, own in [([("equal", form(-2, x=1, y=1))], form(-2, x=1, y=1)), ([], NOUGHT),
                          ([("atmost", form(-1, y=1))], NOUGHT)]:
            wanted = copy.deepcopy(forced(rows, own))
            told = forced(rows, own)
            told[0].append(None)
            self.assertEqual(told[1], wanted[1])
            told[1].clear()
            self.assertEqual(forced(rows, own), wanted)


class TestSpread(SumsCase):
    def test_no_forms(self):
        self.assertEqual(spread([], []), {})
        self.check_spread([("atmost", form(1, x=1)), ("below", form(0, x=-1, y=1))], [])

    def test_one_form(self):
        self.check_spread([], [form(0, x=1)])
        self.check_spread([], [form(-1)])
        self.check_spread([("atmost", form(0, x=1)), ("atmost", form(-1, x=-1))], [form(0, x=1)])
        self.check_spread([("atmost", form(0, x=1)), ("atmost", form(-1, x=-1))], [form(1, x=1)])
        self.check_spread([("equal", form(0, x=1, y=-1))], [form(0, x=1)])

    def test_several_forms(self):
        forms = [form(0, x=1), form(0, y=1), form(0, x=1, y=-1), form(0, x=1, y=1), form(-1, x=1), form(1, y=3),
                 form(Fraction(-1, 2), x=1), form(Fraction(-1, 2), y=1), form(Fraction(-1, 3), x=1, y=-1)]
        rows = [("atmost", form(0, x=-1)), ("atmost", form(-1, x=1)), ("atmost", form(0, y=-1)),
                ("atmost", form(-1, y=1))]
        for many in range(len(forms) + 1):
            self.check_spread(rows, forms[:many])
            self.check_spread(rows, forms[:many][::-1])
            self.check_spread([], forms[:many])
        self.check_spread([("below", own) for word, own in rows], forms + forms)

    def test_bases_that_no_row_has(self):
        rows = [("equal", form(-1, x=1))]
        self.check_spread(rows, [form(0, z=1), form(0, y=1, z=-1), form(0, x=1, k=-1)])
        self.check_spread(rows, [form(5, x=1), form(5, m=1, x=-3)])

    def test_all_pairs_of_many(self):
        bases = [unknown(sign) for sign in "abcdefghij"]
        forms = [((0, 1), {one: (1, 1), other: (-1, 1)}) for at, one in enumerate(bases) for other in bases[at + 1:]]
        self.check_spread([("atmost", ((0, 1), {base: (-1, 1)})) for base in bases], forms)
        self.check_spread([("equal", ((-1, 1), {base: (1, 1) for base in bases}))], forms)

    def test_many_by_a_loop(self):
        chance = random.Random(17)
        many = 0
        for turn in range(400):
            rows = chance_rows(chance, 7, 3)
            if settled(rows)[0] == "weights":
                continue
            forms = [chance_form(chance, BASES, 2) for time in range(4)] + [own for word, own in rows]
            forms = [own for own in forms if forced(rows, own) is None]
            self.check_spread(rows, forms)
            many += len(forms)
        self.assertGreater(many, 500)

    def test_what_is_told_is_the_askers_own(self):
        rows, forms = [("atmost", form(0, x=1))], [form(0, x=1), form(0, y=1)]
        wanted = spread(rows, forms)
        spread(rows, forms).clear()
        self.assertEqual(spread(rows, forms), wanted)


if __name__ == "__main__":
    unittest.main()
