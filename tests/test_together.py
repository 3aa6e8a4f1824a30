"""Literals settled together: clashes, worlds, cases and cuts."""

import copy
import unittest

from answering import check_outcome, fields_of, plain_of, spoil
from drawing import Draw, small_worlds
from partproof.names import Names
from partproof.together import settle
from partproof.worlds import World, holds
from samples import A, B, C, D, HALF, K, M, ONE, X, Y, ZERO, call, names, number, plus, put, read, unknown, weigh


def yes(word, one, other):
    return ((word, one, other), True)


def no(word, one, other):
    return ((word, one, other), False)


def f(*terms):
    return call("f", *terms)


def p(term):
    return call("p", term)


def h(one, other, place):
    return call("h", one, other, place)


CLASHES = {
    "a number below itself": [yes("below", X, X)],
    "a number that is no other": [yes("same", ONE, HALF)],
    "an atom with both signs": [yes("atmost", X, Y), no("atmost", X, Y)],
    "a ring of sums": [yes("below", X, Y), yes("atmost", Y, plus(X, ONE)), yes("atmost", plus(X, number(2)), Y)],
    "a sum that is forced and not to be": [yes("atmost", X, Y), yes("atmost", Y, X), no("same", weigh(2, 1, X), plus(X, Y))],
    "things": [yes("same", C, D), no("same", D, C)],
    "a thing that is not itself": [no("same", C, C)],
    "things by a chain": [yes("same", C, p(D)), yes("same", p(D), p(p(C))), no("same", C, p(p(C)))],
    "calls of things": [yes("same", C, D), no("same", p(p(C)), p(p(D)))],
    "calls that come back": [yes("same", p(p(p(C))), C), yes("same", p(p(C)), C), no("same", p(C), C)],
    "calls of equal numbers": [yes("same", X, plus(Y, ONE)), no("same", f(X), f(plus(Y, ONE)))],
    "calls of forced numbers": [yes("atmost", X, Y), yes("atmost", Y, X), yes("below", f(X), f(Y))],
    "calls of several places": [yes("same", C, D), yes("atmost", X, Y), yes("atmost", Y, X),
                                no("same", h(C, D, X), h(D, C, Y))],
    "calls there and back": [yes("same", f(X), X), yes("same", f(Y), plus(X, ONE)), yes("atmost", X, Y),
                             yes("atmost", Y, X)],
    "sums of calls": [yes("same", f(X), plus(f(Y), Y)), yes("same", X, Y), no("same", X, ZERO)],
    "an equality of sums, of calls, of sums, of calls": [
        yes("atmost", X, Y), yes("atmost", Y, X), yes("same", f(X), plus(unknown("k"), ONE)),
        yes("same", f(Y), plus(unknown("m"), ONE)), no("same", f(unknown("k")), f(unknown("m")))],
    "reads of one array": [yes("same", X, Y), yes("below", read(A, X), read(A, Y))],
    "a read of a put, hit": [yes("same", X, Y), no("same", read(put(A, X, HALF), Y), HALF)],
    "a read of a put, missed by what is told": [no("same", X, Y), no("same", read(put(A, X, HALF), Y), read(A, Y))],
    "a read of a put, missed by less": [yes("below", X, Y), no("same", read(put(A, X, HALF), Y), read(A, Y))],
    "a read of a put, missed by numbers": [no("same", read(put(A, ONE, HALF), ZERO), read(A, ZERO))],
    "a read of a put, missed by a forced number": [yes("same", X, Y), no("same", read(put(A, plus(X, ONE), ONE), Y),
                                                                         read(A, X))],
    "a call at a put's place": [yes("same", X, K), yes("same", f(K), Y), no("same", read(put(A, f(X), ONE), Y), ONE)],
    "a call at a read's place": [yes("same", X, K), yes("same", f(K), Y), no("same", read(put(A, Y, ONE), f(X)), ONE)],
    "forced by rows of other weights": [yes("atmost", weigh(2, 1, X), weigh(2, 1, Y)), no("same", f(X), f(Y)),
                                        yes("atmost", weigh(1, 3, Y), weigh(1, 3, X))],
    "two puts": [yes("below", X, Y), yes("below", Y, K), no("same", read(put(put(A, X, ONE), Y, HALF), K), read(A, K))],
    "a read of what a read tells": [yes("same", read(put(A, X, Y), X), X), no("same", read(B, X), read(B, Y))],
    "a round of a whole": [yes("same", weigh(2, 1, K), ONE)],
    "a round of two wholes": [yes("same", weigh(2, 1, K), plus(weigh(4, 1, M), ONE))],
    "nothing between two wholes": [yes("below", K, plus(M, ONE)), yes("below", M, K)],
    "a bound of a whole": [yes("below", K, ZERO)],
    "a whole that is forced to be a half": [yes("same", K, X), yes("same", X, HALF)],
    "a whole between bounds by calls": [yes("same", K, f(X)), yes("same", f(Y), HALF), yes("same", X, Y)],
}

WORLDS = {
    "nothing": [],
    "one atom": [yes("below", X, Y)],
    "less than all": [yes("below", X, number(-1000000)), no("atmost", Y, number(10 ** 59))],
    "unlike numbers": [no("same", X, Y), no("same", X, ZERO), no("same", Y, ZERO), yes("atmost", X, Y)],
    "within narrow bounds": [yes("below", ZERO, X), yes("below", X, number(1, 10 ** 50)), no("same", X, number(1, 10 ** 51))],
    "calls within narrow bounds": [yes("below", ZERO, X), yes("below", X, Y), yes("below", Y, number(1, 10 ** 50)),
                                   no("same", f(X), f(Y)), no("same", f(weigh(2, 1, X)), f(Y)),
                                   no("same", f(plus(X, X)), f(plus(Y, weigh(-1, 1, X)))),
                                   no("same", f(number(1, 2 * 10 ** 50)), f(X)), no("same", f(number(1, 3 * 10 ** 50)), f(Y)),
                                   no("same", f(number(1, 3 * 10 ** 50)), f(X)), no("same", f(number(1, 15 * 10 ** 49)), f(Y))],
    "unlike calls": [no("same", f(X), f(Y)), yes("atmost", X, Y), no("same", f(f(X)), f(f(Y)))],
    "equal calls of unlike numbers": [yes("same", f(X), f(Y)), no("same", X, Y)],
    "things": [no("same", C, D), yes("same", p(C), p(D)), no("same", p(C), C)],
    "things and calls": [no("same", p(C), p(D)), no("same", h(C, D, X), h(D, C, X)), yes("same", p(p(C)), D)],
    "reads": [no("same", read(A, X), read(A, Y)), no("same", read(A, X), read(B, X))],
    "hits": [yes("same", X, Y), yes("same", read(put(A, X, ONE), Y), ONE)],
    "misses": [no("same", X, Y), yes("same", read(put(A, X, ONE), Y), HALF), yes("same", read(A, X), number(7))],
    "deep misses": [yes("below", X, Y), yes("below", Y, ZERO), yes("same", read(put(put(A, X, ONE), Y, ONE), ZERO), HALF)],
}


class TestSettled(unittest.TestCase):
    def settled(self, literals, own_names=None):
        own_names = own_names or names()
        outcome = settle(own_names, tuple(literals))
        check_outcome(self, own_names, tuple(literals), outcome)
        return outcome

    def test_clashes(self):
        for told, literals in CLASHES.items():
            with self.subTest(told):
                self.assertEqual(self.settled(literals)[0], "clash")

    def test_clashes_need_all_their_literals_or_tell_no_clash(self):
        for told, literals in CLASHES.items():
            for at in range(len(literals)):
                with self.subTest(told, at=at):
                    self.settled(literals[:at] + literals[at + 1:])

    def test_worlds(self):
        for told, literals in WORLDS.items():
            with self.subTest(told):
                self.assertEqual(self.settled(literals)[0], "world")

    def test_in_another_order_and_twice(self):
        for word, rows in (("clash", CLASHES), ("world", WORLDS)):
            for told, literals in rows.items():
                with self.subTest(told):
                    self.assertEqual(self.settled(literals[::-1])[0], word)
                    self.assertEqual(self.settled(literals + literals[:2])[0], word)
                    self.assertEqual(self.settled(literals[1:] + literals[:1])[0], word)

    def test_open_places_are_a_case(self):
        for literals in ([no("same", read(put(A, X, ONE), Y), ONE)],
                         [no("same", f(read(put(A, X, ONE), Y)), ONE), yes("atmost", X, Y)],
                         [no("same", X, Y), no("same", read(put(put(A, K, ONE), X, ONE), Y), ONE)]):
            self.assertEqual(self.settled(literals)[0], "case")

    def test_a_case_comes_to_an_end(self):
        literals = [no("same", read(put(put(put(A, X, ONE), Y, HALF), K, ZERO), M), read(B, read(put(B, X, Y), M)))]
        seen = 0
        while self.settled(literals)[0] == "case":
            atom = self.settled(literals)[1]
            self.assertNotIn(atom, [told for told, sign in literals])
            literals.append((atom, seen == 2))
            seen += 1
        self.assertGreaterEqual(seen, 1)
        self.assertEqual(self.settled(literals)[0], "world")

    def test_cuts_come_to_an_end(self):
        own_names = Names([], [("k", 0, 2), ("l", 0, 2), ("m", 0, 2), ("n", 0, 2)], [], [("f", ("num",), "num")], [])
        calls = [f(unknown(name)) for name in "klmn"]
        literals = [no("same", one, other) for one in calls for other in calls if one != other]
        waiting, seen = [literals], 0
        while waiting:
            literals = waiting.pop()
            outcome = self.settled(literals, own_names)
            self.assertIn(outcome[0], ("clash", "cut"))
            if outcome[0] == "cut":
                seen += 1
                place, told = unknown(outcome[1]), outcome[2]
                waiting.append(literals + [yes("atmost", place, number(told))])
                waiting.append(literals + [yes("atmost", number(told + 1), place)])
        self.assertGreaterEqual(seen, 1)

    def test_wholes_have_whole_values(self):
        for literals in ([yes("same", plus(K, K, M), number(3))], [no("same", K, M), yes("below", K, number(2))],
                         [yes("same", K, plus(M, X)), yes("below", X, ONE)], [no("same", f(K), f(M))]):
            outcome = self.settled(literals)
            self.assertIn(outcome[0], ("world", "cut"))

    def test_many_literals(self):
        own_names = Names(["x" + letter for letter in "abcdefghijklmnopqrst"], [], [], [("f", ("num",), "num")], ["a"])
        unknowns = [unknown(name) for name in own_names.all_numbers()]
        ring = [yes("atmost", one, other) for one, other in zip(unknowns, unknowns[1:] + unknowns[:1])]
        unlike = [no("same", f(one), f(other)) for one, other in zip(unknowns, unknowns[5:])]
        reads = [yes("same", read(unknown("a"), one), f(one)) for one in unknowns]
        self.assertEqual(self.settled(ring + reads, own_names)[0], "world")
        self.assertEqual(self.settled(ring[:-1] + reads + unlike, own_names)[0], "world")
        self.assertEqual(self.settled(ring + reads + unlike, own_names)[0], "clash")

    def test_deep_terms(self):
        term = X
        for turn in range(10):
            term = f(term)
        self.assertEqual(self.settled([yes("same", f(X), X), no("same", term, X)])[0], "clash")
        self.assertEqual(self.settled([yes("same", f(f(f(X))), X), no("same", term, X)])[0], "world")


class TestDrawn(unittest.TestCase):
    def test_drawn_literals(self):
        sorts = {}
        for seed in range(500):
            draw = Draw(seed, deepest=2 + seed % 3, has_wholes=seed % 2 == 0, has_arrays=seed % 3 != 0)
            literals = draw.literals(seed % 9)
            with self.subTest(seed):
                outcome = settle(draw.names, literals)
                check_outcome(self, draw.names, literals, outcome)
                sorts[outcome[0]] = sorts.get(outcome[0], 0) + 1
        self.assertGreater(min(sorts["clash"], sorts["world"], sorts["case"]), 20)

    def test_never_a_clash_where_a_small_world_has_all(self):
        for seed in range(60):
            draw = Draw(seed, has_wholes=seed % 2 == 0)
            for world in small_worlds(draw.has_wholes, 5, seed):
                literals = tuple([(atom, holds(world, atom)) for atom, sign in draw.literals(6)])
                with self.subTest(seed):
                    outcome = settle(draw.names, literals)
                    self.assertNotEqual(outcome[0], "clash")
                    check_outcome(self, draw.names, literals, outcome)


class TestOwn(unittest.TestCase):
    def test_what_is_handed_in_stays(self):
        for literals in list(CLASHES.values()) + list(WORLDS.values()):
            literals = tuple(literals)
            kept, own_names = copy.deepcopy(literals), names()
            before = copy.deepcopy(vars(own_names))
            settle(own_names, literals)
            self.assertEqual(literals, kept)
            self.assertEqual(vars(own_names), before)

    def test_the_same_question_has_the_same_answer(self):
        for literals in list(CLASHES.values()) + list(WORLDS.values()):
            one, other = settle(names(), tuple(literals)), settle(names(), tuple(literals))
            self.assertEqual(plain_of(one), plain_of(other))

    def test_a_world_is_the_askers_own(self):
        for literals in WORLDS.values():
            own_names = names()
            one, other = settle(own_names, tuple(literals))[1], settle(own_names, tuple(literals))[1]
            self.assertIs(type(one), World)
            kept = copy.deepcopy(fields_of(other))
            spoil(one)
            self.assertEqual(fields_of(other), kept)
            self.assertEqual(fields_of(settle(own_names, tuple(literals))[1]), kept)


if __name__ == "__main__":
    unittest.main()
