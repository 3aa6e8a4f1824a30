"""Points 2, 6, 12 and 17 to 20: clashes, their steps, the facts that they show, what ends them."""

import copy
import unittest
from fractions import Fraction

from partproof.facts import fact_of
from partproof.steps import is_clash, shown
from reckoning import form, pair
from samples import (A, B, C, D, HALF, K, M, NUM_WRAPS, ONE, THING_WRAPS, X, Y, ZERO, as_list, as_other_truth, call,
                     changed_somewhere, deep, names, number, other_kinds, plus, put, read, weigh)

NEVER = (("below", ONE, ZERO), True)
FX, FY, PC, PD = call("f", X), call("f", Y), call("p", C), call("p", D)
AX, AY = read(A, X), read(A, Y)
PUT = read(put(A, X, K), Y)
NONE = ((0, 1), {})


def literal(word, one, other, sign=True):
    return ((word, one, other), sign)


def told(own):
    return ("told", own[0], own[1])


def less(one, other, more=0):
    """The form of one less the other and a constant more."""
    weights = {one: (1, 1), other: (-1, 1)} if one != other else {}
    return (pair(more), weights)


class StepsCase(unittest.TestCase):
    def show(self, path, *steps):
        """The facts that steps show for a path, or None where one of them shows none.

        Behind them stand a telling of what is never so and an end, so that all depends on the steps.
        """
        path += (NEVER,)
        steps += (told(NEVER), ("end", len(steps)))
        facts = shown(names(), path, steps)
        self.assertIs(is_clash(names(), path, steps), facts is not None)
        if facts is None:
            return None
        self.assertIsInstance(facts, list)
        self.assertEqual(len(facts), len(steps) - 1)
        self.assertEqual(facts[-1], ("below", ((1, 1), {})))
        return facts[:-1]

    def last(self, path, *steps):
        """The fact that the last one of the steps shows, where all literals of the path are told ahead of them."""
        facts = self.show(path, *[told(own) for own in path], *steps)
        return None if facts is None else facts[-1]

    def ends(self, path, *steps):
        own = names()
        facts = shown(own, path, steps)
        self.assertIs(is_clash(own, path, steps), facts is not None)
        return facts is not None


class TestTold(StepsCase):
    def test_its_fact(self):
        path = (literal("atmost", X, Y), literal("below", FX, ONE, False), literal("same", K, HALF),
                literal("same", AX, AY, False), literal("same", C, PD), literal("same", C, D, False),
                literal("atmost", X, X, False))
        facts = self.show(path, *[told(own) for own in path])
        self.assertEqual(facts, [fact_of(names(), *own) for own in path])
        self.assertEqual(self.show(path, told(path[3])), [("unlike", less(AX, AY))])

    def test_not_in_the_path(self):
        path = (literal("atmost", X, Y),)
        for own in [literal("atmost", X, Y, False), literal("atmost", Y, X), literal("below", X, Y),
                    literal("atmost", plus(X), Y), literal("same", X, Y)]:
            self.assertIsNone(self.show(path, told(own)))
        self.assertIsNone(self.show((), told(path[0])))

    def test_both_signs_in_the_path(self):
        path = (literal("atmost", X, Y, False), literal("atmost", X, Y))
        self.assertEqual(self.show(path, told(path[1]), told(path[0])),
                         [("atmost", less(X, Y)), ("below", less(Y, X))])

    def test_wrong_ones(self):
        path = (literal("atmost", X, ONE), literal("same", C, D, False))
        own = path[0][0]
        for step in [("told", own), ("told", own, True, True), ("told", own, 1), ("told", own, None),
                     ("told", ["atmost", X, ONE], True), ("told", ("atmost", X, ["number", (1, 1)]), True),
                     ("told", ("atmost", X, ("number", [1, 1])), True), ("told", path[1][0], 0),
                     ("told", ("atmost", X, ("number", (True, 1))), True), ("told", ("not", own), True),
                     ("told", ("not", own), False), ("told", ("and", (own,)), True), ("told", True, own),
                     ("told", (own, True)), (), ("told",), "told"]:
            self.assertIsNone(self.show(path, step), step)

    def test_deep_ones(self):
        for wrap in NUM_WRAPS:
            own = literal("below", deep(wrap, X, 11), ONE, False)
            self.assertEqual(self.show((own,), told(own)), [fact_of(names(), *own)])
            for many in (12, 5000):
                self.assertIsNone(self.show((own,), ("told", ("below", deep(wrap, X, many), ONE), False)))


class TestBound(StepsCase):
    def test_its_fact(self):
        self.assertEqual(self.show((), ("bound", "k", "low")), [("atmost", form(0, k=-1))])
        self.assertEqual(self.show((), ("bound", "k", "high")), [("atmost", form(-5, k=1))])
        self.assertEqual(self.show((), ("bound", "m", "low"), ("bound", "m", "high")),
                         [("atmost", form(-3, m=-1)), ("atmost", form(-3, m=1))])

    def test_wrong_ones(self):
        for step in [("bound", "x", "low"), ("bound", "c", "low"), ("bound", "f", "low"), ("bound", "a", "high"),
                     ("bound", "zz", "low"), ("bound", K, "low"), ("bound", "k", "mid"), ("bound", "k", True),
                     ("bound", "k", ("low",)), ("bound", "k"), ("bound", "k", "low", "high"), ("bound", ["k"], "low"),
                     ("bound", None, "low"), ("bound", "k", None), ("bound", {}, "low"), ("bound", "k", b"low")]:
            self.assertIsNone(self.show((), step), step)


class TestSum(StepsCase):
    PATH = (literal("atmost", X, Y), literal("below", Y, FX), literal("same", FX, ONE), literal("same", X, Y, False),
            literal("same", C, D))

    def sum(self, *parts):
        return self.last(self.PATH, ("sum", parts))

    def test_words_and_forms(self):
        self.assertEqual(self.sum((0, (1, 1))), ("atmost", less(X, Y)))
        self.assertEqual(self.sum((0, (0, 1))), ("atmost", NONE))
        self.assertEqual(self.sum((1, (2, 3))), ("below", ((0, 1), {Y: (2, 3), FX: (-2, 3)})))
        self.assertEqual(self.sum((1, (0, 1))), ("atmost", NONE))
        self.assertEqual(self.sum((2, (-2, 1))), ("equal", ((2, 1), {FX: (-2, 1)})))
        self.assertEqual(self.sum((2, (0, 1))), ("equal", NONE))
        self.assertEqual(self.sum((2, (1, 2)), (2, (-1, 3))), ("equal", ((-1, 6), {FX: (1, 6)})))
        self.assertEqual(self.sum((0, (1, 1)), (1, (1, 1))), ("below", less(X, FX)))
        self.assertEqual(self.sum((0, (1, 1)), (1, (0, 1))), ("atmost", less(X, Y)))
        self.assertEqual(self.sum((0, (0, 1)), (2, (1, 1))), ("atmost", ((-1, 1), {FX: (1, 1)})))
        self.assertEqual(self.sum((2, (-1, 1)), (1, (0, 1))), ("atmost", ((1, 1), {FX: (-1, 1)})))
        self.assertEqual(self.sum((2, (-1, 1)), (0, (1, 1)), (1, (1, 1))),
                         ("below", ((1, 1), {X: (1, 1), FX: (-2, 1)})))
        self.assertEqual(self.sum((1, (10 ** 59, 7)), (0, (10 ** 59, 7))),
                         ("below", ((0, 1), {X: (10 ** 59, 7), FX: (-10 ** 59, 7)})))

    def test_wrong_ones(self):
        one = (1, 1)
        for parts in [(), ((0, (-1, 1)),), ((1, (-1, 2)),), ((0, one), (1, (-1, 7))), ((3, one),), ((4, one),),
                      ((0, one), (3, (0, 1))), ((5, one),), ((6, one),), ((-1, one),), ((False, one),), ((True, one),),
                      ((None, one),), (("0", one),), ((0, 1),), ((0, (1, 0)),), ((0, (2, 2)),), ((0, (1, True)),),
                      ((0, [1, 1]),), ([0, one],), [(0, one)], (0, one), ((0, one, one),), ((0,),), (None,), None,
                      "", "sum", ((0, None),), ((one, 0),), {0: one}, ((0, (1, -1)),), (((0, one),),)]:
            self.assertIsNone(self.last(self.PATH, ("sum", parts)), parts)
        self.assertIsNone(self.last(self.PATH, ("sum", ((0, one),), ((0, one),))))
        self.assertIsNone(self.last(self.PATH, ("sum",)))


class TestBoth(StepsCase):
    def test_its_fact(self):
        path = (literal("atmost", X, Y), literal("atmost", Y, X), literal("same", X, Y), literal("same", Y, X),
                literal("atmost", X, X))
        for one, other, wanted in [(0, 1, less(X, Y)), (1, 0, less(Y, X)), (0, 3, less(X, Y)), (2, 1, less(X, Y)),
                                   (3, 2, less(Y, X)), (4, 4, NONE)]:
            self.assertEqual(self.last(path, ("both", one, other)), ("equal", wanted))

    def test_wrong_ones(self):
        path = (literal("atmost", X, Y), literal("atmost", Y, X), literal("below", Y, X), literal("same", X, Y, False),
                literal("atmost", weigh(2, 1, Y), weigh(2, 1, X)), literal("same", C, D),
                literal("atmost", Y, plus(X, ONE)))
        for one, other in [(0, 0), (0, 2), (2, 0), (0, 3), (3, 1), (0, 4), (4, 0), (5, 5), (0, 6), (1, 1), (0, 7),
                           (7, 0), (0, True), (False, 1), (0, -6), (None, 1), (0, None), ("0", 1), ((0,), 1)]:
            self.assertIsNone(self.last(path, ("both", one, other)), (one, other))
        self.assertIsNone(self.last(path, ("both", 0)))
        self.assertIsNone(self.last(path, ("both", 0, 1, 1)))


class TestApart(StepsCase):
    def test_by_rows(self):
        for word, more, is_apart in [("atmost", 1, True), ("atmost", 0, False), ("atmost", -1, False),
                                     ("below", 1, True), ("below", 0, True), ("below", -1, False),
                                     ("same", 1, True), ("same", 0, False), ("same", -1, True)]:
            for top in (1, 2, -1, -3):
                # The row's form is so many times x less y, and the constant more.
                row = literal(word, plus(weigh(top, 1, X), number(more)), weigh(top, 1, Y))
                wanted = ("unlike", less(X, Y)) if is_apart else None
                self.assertEqual(self.last((row,), ("apart", 0, X, Y)), wanted, row)
                wanted = ("unlike", less(Y, X)) if is_apart else None
                self.assertEqual(self.last((row,), ("apart", 0, Y, X)), wanted, row)

    def test_constant_within_the_terms(self):
        # x less y and 2, at most 0: so x is not y less 1, but it may be y less 2.
        row = literal("atmost", plus(X, number(2)), Y)
        self.assertEqual(self.last((row,), ("apart", 0, plus(X, ONE), Y)), ("unlike", less(X, Y, 1)))
        self.assertIsNone(self.last((row,), ("apart", 0, plus(X, number(2)), Y)))
        self.assertIsNone(self.last((row,), ("apart", 0, plus(X, number(3)), Y)))
        self.assertEqual(self.last((row,), ("apart", 0, plus(X, number(399, 200)), Y)),
                         ("unlike", less(X, Y, "399/200")))
        half = literal("atmost", plus(weigh(-1, 2, X), ONE), ZERO)
        self.assertEqual(self.last((half,), ("apart", 0, X, number(199, 100))),
                         ("unlike", form(Fraction(-199, 100), x=1)))
        self.assertIsNone(self.last((half,), ("apart", 0, X, number(2))))
        self.assertIsNone(self.last((half,), ("apart", 0, number(2), X)))

    def test_by_nothing(self):
        self.assertEqual(self.show((), ("apart", None, ONE, HALF)), [("unlike", form(Fraction(1, 2)))])
        self.assertEqual(self.show((), ("apart", None, plus(X, ONE), X)), [("unlike", form(1))])
        for one, other in [(ONE, ONE), (X, X), (X, Y), (X, ONE), (plus(X, Y), plus(Y, X))]:
            self.assertIsNone(self.show((), ("apart", None, one, other)))

    def test_wrong_ones(self):
        path = (literal("below", X, Y), literal("same", X, Y, False), literal("same", C, D),
                literal("below", ONE, ZERO), literal("below", X, plus(Y, Y)))
        self.assertEqual(self.last(path, ("apart", 0, X, Y)), ("unlike", less(X, Y)))
        for step in [("apart", 1, X, Y), ("apart", 2, X, Y), ("apart", 2, C, D), ("apart", None, C, D),
                     ("apart", 3, X, Y), ("apart", 3, ONE, ZERO), ("apart", 3, X, X), ("apart", 4, X, Y),
                     ("apart", 0, X, X), ("apart", 0, X, ONE), ("apart", 0, plus(X, K), plus(Y, M)), ("apart", 5, X, Y),
                     ("apart", 6, X, Y), ("apart", -5, X, Y), ("apart", False, X, Y), ("apart", "0", X, Y),
                     ("apart", 0, X), ("apart", 0, X, Y, Y), ("apart", 0, list(X), Y), ("apart", 0, X, None),
                     ("apart", 0, ("unknown", "zz"), Y), ("apart", 0, A, A), ("apart", None, A, B),
                     ("apart", 0, X, deep(NUM_WRAPS[1], Y, 13)), ("apart", 0, X, deep(NUM_WRAPS[1], Y, 3000)),
                     ("apart", None, number(1), ("number", (4, 2))), ("apart", None, ("number", (True, 1)), ZERO)]:
            self.assertIsNone(self.last(path, step), step)
        self.assertEqual(self.last(path, ("apart", 0, X, deep(NUM_WRAPS[1], Y, 12))), ("unlike", less(X, Y)))


class TestRound(StepsCase):
    def rounded(self, word, *terms):
        """What comes of a row of which the form is the sum of the terms."""
        return self.last((literal(word, plus(*terms), ZERO),), ("round", 0))

    def test_constants(self):
        for constant, atmost, below in [("0", 0, 1), ("1", 1, 2), ("-1", -1, 0), ("1/2", 1, 1), ("-1/2", 0, 0),
                                        ("7/3", 3, 3), ("-7/3", -2, -2), ("9999/10000", 1, 1)]:
            own = ("number", pair(constant))
            self.assertEqual(self.rounded("atmost", K, own), ("atmost", form(atmost, k=1)))
            self.assertEqual(self.rounded("below", K, own), ("atmost", form(below, k=1)))
            wanted = ("equal", form(constant, k=1)) if "/" not in constant else ("atmost", form(1))
            self.assertEqual(self.rounded("same", K, own), wanted)

    def test_weights(self):
        for terms, whole in [((weigh(2, 1, K), weigh(4, 1, M), number(3)), form(2, k=1, m=2)),
                             ((weigh(1, 2, K), weigh(-1, 3, M), number(1, 7)), form(1, k=3, m=-2)),
                             ((weigh(-6, 1, K), number(-9)), form(-1, k=-1)),
                             ((weigh(6, 5, K), weigh(-9, 5, M), number(1, 2)), form(1, k=2, m=-3)),
                             ((weigh(5, 1, K), weigh(7, 1, M), number(1, 3)), form(1, k=5, m=7))]:
            self.assertEqual(self.rounded("atmost", *terms), ("atmost", whole))
        self.assertEqual(self.rounded("below", weigh(2, 1, K), number(4)), ("atmost", form(3, k=1)))
        self.assertEqual(self.rounded("below", weigh(2, 1, K), number(3)), ("atmost", form(2, k=1)))
        self.assertEqual(self.rounded("same", weigh(-2, 1, K), weigh(4, 1, M), number(6)),
                         ("equal", form(3, k=-1, m=2)))
        self.assertEqual(self.rounded("same", weigh(2, 1, K), weigh(4, 1, M), number(3)), ("atmost", form(1)))
        self.assertEqual(self.rounded("same", weigh(1, 2, K), number(1, 2)), ("equal", form(1, k=1)))

    def test_wrong_ones(self):
        for word in ("atmost", "below", "same"):
            for terms in [(ONE,), (), (X, HALF), (K, X), (FX,), (K, AX), (K, weigh(-1, 1, K), HALF), (call("f", K),),
                          (read(A, K),)]:
                self.assertIsNone(self.rounded(word, *terms))
        path = (literal("atmost", K, M), literal("same", K, M, False), literal("same", C, D))
        self.assertEqual(self.last(path, ("round", 0)), ("atmost", less(K, M)))
        for step in [("round", 1), ("round", 2), ("round", 3), ("round", 4), ("round", -3), ("round", False),
                     ("round", None), ("round", "0"), ("round",), ("round", 0, 0), ("round", (0,))]:
            self.assertIsNone(self.last(path, step), step)


class TestLike(StepsCase):
    def test_calls_that_tell_nums(self):
        path = (literal("same", X, Y), literal("same", weigh(-3, 2, Y), weigh(-3, 2, X)), literal("atmost", X, Y),
                literal("same", X, plus(Y, ONE)))
        for cites in [(0,), (1,)]:
            self.assertEqual(self.last(path, ("like", FX, FY, cites)), ("equal", less(FX, FY)))
            self.assertEqual(self.last(path, ("like", FY, FX, cites)), ("equal", less(FY, FX)))
        for cites in [(None,), (2,), (3,), (4,), (5,), (-1,), (True,), (False,), ("0",), (), (0, 0), (0, None), [0], 0,
                      None, ((0,),)]:
            self.assertIsNone(self.last(path, ("like", FX, FY, cites)), cites)

    def test_nothing_need_be_cited(self):
        path = (literal("below", X, Y), literal("same", C, D))
        one, other = call("f", plus(X, Y)), call("f", plus(Y, X))
        for cites in [(None,), (0,), (1,)]:
            self.assertEqual(self.last(path, ("like", one, other, cites)), ("equal", less(one, other)))
            self.assertEqual(self.last(path, ("like", FX, FX, cites)), ("equal", NONE))
        for cites in [(2,), (-1,), (False,), ("",), ((),)]:
            self.assertIsNone(self.last(path, ("like", one, other, cites)))
            self.assertIsNone(self.last(path, ("like", FX, FX, cites)))

    def test_calls_that_tell_things(self):
        path = (literal("same", C, D), literal("same", X, Y), literal("same", D, PC))
        self.assertEqual(self.last(path, ("like", PC, PD, (0,))), ("alike", PC, PD))
        self.assertEqual(self.last(path, ("like", PD, PC, (0,))), ("alike", PD, PC))
        one, other = call("g", C, X), call("g", D, Y)
        self.assertEqual(self.last(path, ("like", one, other, (0, 1))), ("alike", one, other))
        for cites in [(1, 0), (0, None), (None, 1), (None, None), (2, 1), (0, 2), (0, 0), (1, 1), (0,), (0, 1, 1)]:
            self.assertIsNone(self.last(path, ("like", one, other, cites)), cites)
        self.assertEqual(self.last(path, ("like", call("g", C, X), call("g", C, Y), (None, 1))),
                         ("alike", call("g", C, X), call("g", C, Y)))

    def test_three_places(self):
        path = (literal("same", C, D), literal("same", X, Y))
        one, other = call("h", C, D, plus(X, ONE)), call("h", D, D, plus(Y, ONE))
        self.assertEqual(self.last(path, ("like", one, other, (0, None, 1))), ("equal", less(one, other)))
        self.assertEqual(self.last(path, ("like", one, other, (0, 1, 1))), ("equal", less(one, other)))
        for cites in [(None, None, 1), (0, None, None), (0, None, 0), (0, 2, 1), (0, None)]:
            self.assertIsNone(self.last(path, ("like", one, other, cites)))

    def test_reads(self):
        path = (literal("same", Y, X), literal("same", K, M, False))
        self.assertEqual(self.last(path, ("like", AX, AY, (0,))), ("equal", less(AX, AY)))
        self.assertEqual(self.last(path, ("like", read(A, plus(X)), AX, (None,))),
                         ("equal", less(read(A, plus(X)), AX)))
        for one, other, cites in [(AX, AY, (None,)), (AX, AY, (1,)), (AX, read(B, Y), (0,)), (AX, read(B, X), (None,)),
                                  (read(A, K), read(A, M), (1,)), (AX, AY, ()), (AX, AY, (0, 0)),
                                  (read(put(A, K, M), X), read(put(A, K, M), Y), (0,)),
                                  (read(put(A, K, M), X), read(put(A, K, M), X), (None,))]:
            self.assertIsNone(self.last(path, ("like", one, other, cites)), (one, other, cites))

    def test_wrong_terms(self):
        path = (literal("same", X, Y), literal("same", C, D))
        for one, other in [(X, Y), (FX, AX), (FX, PC), (plus(X), plus(Y)), (call("f", X, X), call("f", Y, Y)),
                           (call("zz", X), call("zz", Y)), (list(FX), FY), (FX, None), (A, B),
                           (call("f", C), call("f", D)), (("call", "f", [X]), FY), (call("p", X), call("p", Y)),
                           (put(A, X, X), put(A, Y, Y)),
                           (deep(NUM_WRAPS[3], X, 13), deep(NUM_WRAPS[3], X, 13)), (FX, deep(NUM_WRAPS[3], X, 4000))]:
            self.assertIsNone(self.last(path, ("like", one, other, (0,))), (one, other))
        self.assertIsNone(self.last(path, ("like", FX, FY)))
        self.assertIsNone(self.last(path, ("like", FX, FY, (0,), (0,))))


class TestChain(StepsCase):
    PATH = (literal("same", C, D), literal("same", PC, D), literal("same", PC, PD), literal("same", C, PD, False),
            literal("same", X, Y), literal("same", C, C))

    def test_either_way_round(self):
        for cites, one, other in [((0,), C, D), ((0,), D, C), ((1,), D, PC), ((0, 1), C, PC), ((1, 0), PC, C),
                                  ((0, 1, 2), C, PD), ((2, 1, 0), PD, C), ((0, 0), C, C), ((0, 0, 0), C, D),
                                  ((5,), C, C), ((5, 0, 1, 1, 1), C, PC)]:
            self.assertEqual(self.last(self.PATH, ("chain", cites, one, other)), ("alike", one, other))

    def test_wrong_ones(self):
        for cites, one, other in [
                ((), C, C), ((), C, D), ((0,), C, C), ((0,), C, PC), ((1, 0), C, PC), ((0, 2), C, PD), ((0, 1), PC, C),
                ((3,), C, PD), ((4,), X, Y), ((4,), C, D), ((6,), C, D), ((7,), C, D), ((-6,), C, D), ((False,), C, D),
                ((None,), C, D), ((None,), C, C), ([0], C, D), (0, C, D), (None, C, C), ((0, (1,)), C, PC),
                ((0,), list(C), D), ((0,), C, None), ((0,), C, ("unknown", "zz")), ((0, None), C, D),
                ((0,), C, deep(THING_WRAPS[0], D, 13))]:
            self.assertIsNone(self.last(self.PATH, ("chain", cites, one, other)), (cites, one, other))
        self.assertIsNone(self.last(self.PATH, ("chain", (0,), C)))
        self.assertIsNone(self.last(self.PATH, ("chain", (0,), C, D, D)))
        self.assertIsNone(self.last(self.PATH, ("chain", C, D, (0,))))


class TestHitAndMiss(StepsCase):
    PATH = (literal("same", Y, X), literal("same", X, Y, False), literal("same", K, M), literal("same", C, D))

    def test_hit(self):
        self.assertEqual(self.last(self.PATH, ("hit", PUT, 0)), ("equal", less(PUT, K)))
        own = read(put(B, plus(X, Y), FX), plus(Y, X))
        for cite in (None, 0, 1, 2, 3):
            self.assertEqual(self.last(self.PATH, ("hit", own, cite)), ("equal", less(own, FX)))
        twice = read(put(put(A, K, X), weigh(2, 1, X), number(1, 3)), weigh(2, 1, Y))
        self.assertEqual(self.last(self.PATH, ("hit", twice, 0)), ("equal", (pair("-1/3"), {twice: (1, 1)})))
        itself = read(put(A, X, AX), X)
        self.assertEqual(self.last(self.PATH, ("hit", itself, None)), ("equal", less(itself, AX)))

    def test_wrong_hits(self):
        for own, cite in [(PUT, None), (PUT, 1), (PUT, 2), (PUT, 3), (PUT, 4), (PUT, 5), (PUT, -4), (PUT, False),
                          (PUT, "0"), (PUT, (0,)), (AX, 0), (AX, None), (X, None), (put(A, X, Y), 0), (FX, 0), (C, 3),
                          (list(PUT), 0), (read(put(A, C, K), C), None), (read(list(put(A, X, K)), X), None),
                          (read(put(A, X, C), X), None), (None, None), ("read", None),
                          (read(put(A, X, X), ("unknown", "zz")), None)]:
            self.assertIsNone(self.last(self.PATH, ("hit", own, cite)), (own, cite))
        own = read(put(A, X, K), plus(X))
        for cite in (4, -1, True, False, "", ()):
            self.assertIsNone(self.last(self.PATH, ("hit", own, cite)), cite)
        self.assertIsNone(self.last(self.PATH, ("hit", PUT)))
        self.assertIsNone(self.last(self.PATH, ("hit", PUT, 0, 0)))

    def test_miss(self):
        miss = read(A, Y)
        self.assertEqual(self.last(self.PATH, ("miss", PUT, 1)), ("equal", less(PUT, miss)))
        twice = read(put(put(A, K, X), weigh(-2, 3, X), ONE), weigh(-2, 3, Y))
        inner = read(put(A, K, X), weigh(-2, 3, Y))
        self.assertEqual(self.last(self.PATH, ("miss", twice, 1)), ("equal", less(twice, inner)))
        own = read(put(A, ONE, K), ZERO)
        self.assertEqual(self.show((), ("apart", None, ONE, ZERO), ("miss", own, 0))[-1],
                         ("equal", less(own, read(A, ZERO))))
        self.assertEqual(self.show((), ("apart", None, number(7), number(9)), ("miss", own, 0))[-1],
                         ("equal", less(own, read(A, ZERO))))

    def test_wrong_misses(self):
        for own, cite in [(PUT, None), (PUT, 0), (PUT, 2), (PUT, 3), (PUT, 4), (PUT, -3), (PUT, True), (PUT, "1"),
                          (read(put(A, X, K), plus(Y, ONE)), 1), (read(put(A, X, K), K), 1), (read(put(A, X, K), X), 1),
                          (read(put(A, ONE, K), ZERO), None), (read(put(A, ONE, K), ZERO), 1), (AY, 1), (X, 1), (C, 1),
                          (list(PUT), 1), (None, 1), (put(A, X, Y), 1)]:
            self.assertIsNone(self.last(self.PATH, ("miss", own, cite)), (own, cite))
        self.assertIsNone(self.last(self.PATH, ("miss", PUT)))
        self.assertIsNone(self.last(self.PATH, ("miss", PUT, 1, 1)))
        # A miss of like places may be cited by what is never so.
        never = (literal("same", X, X, False),)
        own = read(put(A, plus(X, Y), K), plus(Y, X))
        self.assertEqual(self.last(never, ("miss", own, 0)), ("equal", less(own, read(A, plus(Y, X)))))

    def test_deep_ones(self):
        own = read(deep(lambda array: put(array, ONE, X), A, 11), ONE)
        self.assertEqual(self.show((), ("hit", own, None)), [("equal", less(own, X))])
        self.assertIsNone(self.show((), ("hit", read(deep(lambda array: put(array, ONE, X), A, 12), ONE), None)))
        self.assertIsNone(self.show((), ("hit", read(deep(lambda array: put(array, ONE, X), A, 5000), ONE), None)))


class TestEnd(StepsCase):
    def test_of_one_step(self):
        for word, sign, low, just, high in [("atmost", True, False, False, True), ("below", True, False, True, True),
                                            ("same", True, True, False, True), ("same", False, False, True, False),
                                            ("atmost", False, True, True, False), ("below", False, True, False, False)]:
            for constant, wanted in [(-1, low), (0, just), (1, high)]:
                for one in [number(constant), plus(X, number(constant), weigh(-1, 1, X))]:
                    path = (literal(word, one, ZERO, sign),)
                    self.assertIs(self.ends(path, told(path[0]), ("end", 0)), wanted, path)
                path = (literal(word, plus(X, number(constant)), ZERO, sign),)
                self.assertFalse(self.ends(path, told(path[0]), ("end", 0)))

    def test_of_things(self):
        for one, other, sign, wanted in [(C, C, False, True), (PC, PC, False, True), (C, C, True, False),
                                         (C, D, False, False), (C, D, True, False)]:
            path = (literal("same", one, other, sign),)
            self.assertIs(self.ends(path, told(path[0]), ("end", 0)), wanted)

    def test_of_two_nums(self):
        path = (literal("same", X, Y), literal("same", X, Y, False),
                literal("same", weigh(2, 3, Y), weigh(2, 3, X), False),
                literal("same", X, plus(Y, ONE), False), literal("atmost", X, Y), literal("below", Y, X),
                literal("same", ZERO, ONE, False), literal("same", ONE, number(3)), literal("same", X, X),
                literal("same", K, K, False))
        steps = tuple([told(own) for own in path])
        right = [(0, 1), (0, 2), (6, 7), (8, 9)]
        for one in range(len(path)):
            for other in range(len(path)):
                wanted = (one, other) in right or (other, one) in right
                self.assertIs(self.ends(path, *steps, ("end", one, other)), wanted, (one, other))

    def test_of_two_things(self):
        path = (literal("same", C, D), literal("same", C, D, False), literal("same", D, C, False),
                literal("same", C, PC, False), literal("same", D, C), literal("same", X, Y, False),
                literal("same", X, Y))
        steps = tuple([told(own) for own in path])
        right = [(0, 1), (0, 2), (4, 1), (4, 2), (6, 5)]
        for one in range(len(path)):
            for other in range(len(path)):
                wanted = (one, other) in right or (other, one) in right
                self.assertIs(self.ends(path, *steps, ("end", one, other)), wanted, (one, other))

    def test_wrong_ends(self):
        path = (NEVER, literal("same", C, D), literal("same", C, D, False))
        steps = tuple([told(own) for own in path])
        self.assertTrue(self.ends(path, *steps, ("end", 0)))
        self.assertTrue(self.ends(path, *steps, ("end", 1, 2)))
        for step in [("end",), ("end", 3), ("end", -3), ("end", False), ("end", None), ("end", "0"), ("end", 0, None),
                     ("end", (0,)), ("end", 0, 0), ("end", 0, 1), ("end", True, 2), ("end", 1, 2, 0), ("end", 1, 3),
                     ("end", 1, -1), ["end", 0], "end", 0, None, (), ("ends", 0), (b"end", 0), ("told",) + path[0],
                     ("sum", ((0, (1, 1)),)), ("end", 0, 0, 0), ((), 0), ("end", [])]:
            self.assertFalse(self.ends(path, *steps, step), step)

    def test_one_step_and_none(self):
        for steps in [(), (("end", 0),), (("end", 0, 0),), (told(NEVER),), (("end",),)]:
            self.assertFalse(self.ends((NEVER,), *steps))

    def test_steps_behind_an_end(self):
        good = (told(NEVER), ("end", 0))
        self.assertTrue(self.ends((NEVER,), *good))
        for steps in [good + good, good + (("end", 0),), good + (told(NEVER),), good[::-1], good[:1], good[1:]]:
            self.assertFalse(self.ends((NEVER,), *steps))

    def test_numbers_of_later_steps(self):
        path = (NEVER, literal("same", X, Y))
        for number_of in (1, 2, 3):
            steps = (told(path[0]), ("sum", ((number_of, (1, 1)),)), told(path[1]), ("end", 0))
            self.assertFalse(self.ends(path, *steps))
        self.assertTrue(self.ends(path, told(path[0]), ("sum", ((0, (1, 1)),)), told(path[1]), ("end", 1)))


# Clashes with their paths, with each sort of step somewhere.
CLASHES = [
    ((literal("below", X, Y), literal("below", Y, X)),
     (("told", ("below", X, Y), True), ("told", ("below", Y, X), True), ("sum", ((0, (1, 1)), (1, (1, 1)))),
      ("end", 2))),
    ((literal("atmost", weigh(2, 1, K), ONE), literal("below", ZERO, K)),
     (("told", ("atmost", weigh(2, 1, K), ONE), True), ("round", 0), ("told", ("below", ZERO, K), True),
      ("sum", ((1, (1, 1)), (2, (1, 1)))), ("end", 3))),
    ((literal("atmost", number(6), K),),
     (("bound", "k", "high"), ("told", ("atmost", number(6), K), True), ("sum", ((0, (1, 1)), (1, (1, 1)))),
      ("end", 2))),
    ((literal("atmost", X, Y), literal("atmost", Y, X), literal("same", FX, FY, False)),
     (("told", ("atmost", X, Y), True), ("told", ("atmost", Y, X), True), ("both", 0, 1), ("like", FX, FY, (2,)),
      ("told", ("same", FX, FY), False), ("end", 3, 4))),
    ((literal("same", C, D), literal("same", PD, C), literal("same", PC, D, False)),
     (("told", ("same", C, D), True), ("like", PC, PD, (0,)), ("told", ("same", PD, C), True),
      ("chain", (1, 2, 0), PC, D), ("told", ("same", PC, D), False), ("end", 4, 3))),
    ((literal("below", Y, X), literal("same", PUT, AY, False)),
     (("told", ("below", Y, X), True), ("apart", 0, Y, X), ("miss", PUT, 1), ("told", ("same", PUT, AY), False),
      ("end", 2, 3))),
    ((literal("same", PUT, K, False), literal("same", X, Y)),
     (("told", ("same", X, Y), True), ("hit", PUT, 0), ("told", ("same", PUT, K), False), ("end", 1, 2))),
    ((literal("same", read(put(A, ONE, X), ZERO), read(A, ZERO), False),),
     (("apart", None, ZERO, ONE), ("miss", read(put(A, ONE, X), ZERO), 0),
      ("told", ("same", read(put(A, ONE, X), ZERO), read(A, ZERO)), False), ("end", 1, 2))),
]


class TestAnything(unittest.TestCase):
    def test_right_ones(self):
        for path, steps in CLASHES:
            self.assertIs(is_clash(names(), path, steps), True)
            self.assertEqual(len(shown(names(), path, steps)), len(steps) - 1)

    def test_each_literal_is_needed(self):
        for path, steps in CLASHES:
            for at in range(len(path)):
                self.assertIs(is_clash(names(), path[:at] + path[at + 1:], steps), False)
                turned = (path[at][0], not path[at][1])
                self.assertIs(is_clash(names(), path[:at] + (turned,) + path[at + 1:], steps), False)
            self.assertIs(is_clash(names(), ((("same", M, X), False),) + path[::-1], steps), True)

    def test_each_step_is_needed(self):
        for path, steps in CLASHES:
            for at in range(len(steps)):
                self.assertIs(is_clash(names(), path, steps[:at] + steps[at + 1:]), False)

    def test_lists_in_the_place_of_tuples(self):
        for path, steps in CLASHES:
            for changed in changed_somewhere(steps, as_list):
                self.assertIs(is_clash(names(), path, changed), False, changed)
                self.assertIsNone(shown(names(), path, changed), changed)

    def test_truths_and_numbers(self):
        for path, steps in CLASHES:
            for changed in changed_somewhere(steps, as_other_truth):
                self.assertIs(is_clash(names(), path, changed), False, changed)
                self.assertIsNone(shown(names(), path, changed), changed)

    def test_other_kinds_in_the_place_of_steps(self):
        for thing in other_kinds() + ["told", [("end", 0)], {0: ("end", 0)}, 5, CLASHES[0]]:
            for path, steps in CLASHES + [((), ())]:
                self.assertIs(is_clash(names(), path, thing), False)
                self.assertIsNone(shown(names(), path, thing))

    def test_other_kinds_anywhere(self):
        deepest = deep(lambda thing: (thing,), (), 5000)
        for thing in other_kinds() + [deepest, deep(lambda thing: [thing], [], 5000), deep(NUM_WRAPS[1], X, 5000)]:
            for path, steps in CLASHES:
                for changed in changed_somewhere(steps, lambda part: (thing,)):
                    told_so = is_clash(names(), path, changed)
                    self.assertIsInstance(told_so, bool)
                    self.assertIs(shown(names(), path, changed) is not None, told_so)

    def test_what_is_handed_in_stays(self):
        for path, steps in CLASHES:
            before = copy.deepcopy((path, steps))
            wanted = copy.deepcopy(shown(names(), path, steps))
            told_facts = shown(names(), path, steps)
            for fact in told_facts:
                if isinstance(fact[1], tuple) and isinstance(fact[1][1], dict):
                    fact[1][1].clear()
            told_facts.clear()
            self.assertEqual(shown(names(), path, steps), wanted)
            self.assertEqual((path, steps), before)

    def test_facts_share_nothing(self):
        path = (literal("atmost", X, Y), literal("atmost", Y, X), NEVER)
        steps = (told(path[0]), told(path[1]), ("both", 0, 1), told(path[0]), told(NEVER), ("end", 4))
        facts = shown(names(), path, steps)
        facts[0][1][1].clear()
        self.assertEqual([fact[1][1] for fact in facts[1:4]], [less(Y, X)[1], less(X, Y)[1], less(X, Y)[1]])


if __name__ == "__main__":
    unittest.main()
