"""Points 2, 6 and 12: the fact of a literal."""

import unittest

from partproof.facts import fact_of
from partproof.names import Names
from partproof.worlds import holds, value
from reckoning import value_of
from samples import A, C, D, HALF, K, M, ONE, X, Y, ZERO, call, deep, names, number, plus, put, read, unknown, weigh, \
    world

FX, AX, PC = call("f", X), read(A, X), call("p", C)
# Two terms, and the form of one less the other.
NUMS = [(X, Y, (0, 1), {X: (1, 1), Y: (-1, 1)}), (X, X, (0, 1), {}), (ZERO, ONE, (-1, 1), {}),
        (HALF, ONE, (-1, 2), {}), (X, number(-7, 3), (7, 3), {X: (1, 1)}), (number(-7, 3), X, (-7, 3), {X: (-1, 1)}),
        (K, M, (0, 1), {K: (1, 1), M: (-1, 1)}), (FX, AX, (0, 1), {FX: (1, 1), AX: (-1, 1)}),
        (plus(X, Y, ONE), plus(Y, X), (1, 1), {}), (plus(X, X), weigh(1, 2, plus(X, ONE)), (-1, 2), {X: (3, 2)}),
        (plus(), weigh(0, 1, X), (0, 1), {}),
        (call("f", plus(X, Y)), call("f", plus(Y, X)), (0, 1), {call("f", plus(X, Y)): (1, 1),
                                                                  call("f", plus(Y, X)): (-1, 1)}),
        (read(put(A, X, Y), K), weigh(2, 1, FX), (0, 1), {read(put(A, X, Y), K): (1, 1), FX: (-2, 1)})]
THINGS = [(C, D), (D, C), (C, C), (PC, D), (call("g", C, X), call("g", D, FX))]


def turned(weights):
    return {base: (-top, bottom) for base, (top, bottom) in weights.items()}


class TestFactOf(unittest.TestCase):
    def test_atmost(self):
        for one, other, (top, bottom), weights in NUMS:
            atom = ("atmost", one, other)
            self.assertEqual(fact_of(names(), atom, True), ("atmost", ((top, bottom), weights)))
            self.assertEqual(fact_of(names(), atom, False), ("below", ((-top, bottom), turned(weights))))

    def test_below(self):
        for one, other, (top, bottom), weights in NUMS:
            atom = ("below", one, other)
            self.assertEqual(fact_of(names(), atom, True), ("below", ((top, bottom), weights)))
            self.assertEqual(fact_of(names(), atom, False), ("atmost", ((-top, bottom), turned(weights))))

    def test_same_of_nums(self):
        for one, other, constant, weights in NUMS:
            atom = ("same", one, other)
            self.assertEqual(fact_of(names(), atom, True), ("equal", (constant, weights)))
            self.assertEqual(fact_of(names(), atom, False), ("unlike", (constant, weights)))

    def test_same_of_things(self):
        for one, other in THINGS:
            self.assertEqual(fact_of(names(), ("same", one, other), True), ("alike", one, other))
            self.assertEqual(fact_of(names(), ("same", one, other), False), ("other", one, other))

    def test_names_of_one_to_eight_letters(self):
        for many in range(1, 9):
            long, thing, deed = "n" * many, "t" * many, "f" * many
            own = Names([long], [], [thing], [(deed, ("num",), "thing")], [])
            base, made = unknown(long), call(deed, unknown(long))
            self.assertEqual(fact_of(own, ("atmost", base, ONE), False), ("below", ((1, 1), {base: (-1, 1)})))
            self.assertEqual(fact_of(own, ("same", made, unknown(thing)), True), ("alike", made, unknown(thing)))

    def test_deep_terms(self):
        base = deep(lambda term: call("f", term), X, 11)
        self.assertEqual(fact_of(names(), ("same", base, ONE), False), ("unlike", ((-1, 1), {base: (1, 1)})))
        base = deep(lambda term: call("p", term), C, 11)
        self.assertEqual(fact_of(names(), ("same", D, base), False), ("other", D, base))

    def test_the_fact_is_so_where_the_literal_is(self):
        own = world()
        for one, other, constant, weights in NUMS:
            for word in ("atmost", "below", "same"):
                for sign in (True, False):
                    told, form = fact_of(names(), (word, one, other), sign)
                    number_of = value_of(form, {base: value(own, base) for base in form[1]})
                    is_so = {"atmost": number_of <= 0, "below": number_of < 0, "equal": number_of == 0,
                             "unlike": number_of != 0}[told]
                    self.assertEqual(is_so, holds(own, (word, one, other)) == sign)

    def test_what_is_told_is_the_askers_own(self):
        own = names()
        for one, other, constant, weights in NUMS:
            for word in ("atmost", "below", "same"):
                for sign in (True, False):
                    told = fact_of(own, (word, one, other), sign)
                    wanted = (told[0], (told[1][0], dict(told[1][1])))
                    told[1][1].clear()
                    told[1][1][X] = None
                    self.assertEqual(fact_of(own, (word, one, other), sign), wanted)


if __name__ == "__main__":
    unittest.main()
