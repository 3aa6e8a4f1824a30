"""Points 2 and 15: pairs, chains, classes."""

import copy
import itertools
import random
import unittest

from partproof.likeness import chain, classes, pairs_of
from samples import A, B, C, D, HALF, K, M, ONE, X, Y, ZERO, call, deep, number, plus, put, read, unknown, weigh

FX, FY, FK, PC, PD = call("f", X), call("f", Y), call("f", K), call("p", C), call("p", D)
AX, AY, AK, BX, BY = read(A, X), read(A, Y), read(A, K), read(B, X), read(B, Y)
TERMS = [unknown(sign) for sign in "pqrstuvw"]


def leads(links, one, other):
    """Whether links lead from one term to another, found by joining groups until nothing is left to join."""
    group = [one]
    while True:
        more = [end for mark, start, last in links for here, end in ((start, last), (last, start))
                if here in group and end not in group]
        if not more:
            return other in group
        group.append(more[0])


class TestPairsOf(unittest.TestCase):
    def test_none(self):
        for terms in [[], [FX], [AX], [FX, PC], [FX, AX, BX], [X, Y], [FX, FX], [AX, AX, AX], [C, D, A, B]]:
            self.assertEqual(pairs_of(terms), [])

    def test_calls_and_reads(self):
        self.assertEqual(pairs_of([FX, FY]), [(FX, FY)])
        self.assertEqual(pairs_of([FY, FX]), [(FY, FX)])
        self.assertEqual(pairs_of([PD, PC]), [(PD, PC)])
        self.assertEqual(pairs_of([AX, AY]), [(AX, AY)])
        self.assertEqual(pairs_of([call("h", C, D, X), call("h", D, C, X)]),
                         [(call("h", C, D, X), call("h", D, C, X))])

    def test_order(self):
        self.assertEqual(pairs_of([FX, AX, FY, BX, AY, PC, FK, BY, AK]),
                         [(FX, FY), (FX, FK), (AX, AY), (AX, AK), (FY, FK), (BX, BY), (AY, AK)])

    def test_a_term_more_than_once(self):
        self.assertEqual(pairs_of([FX, FX, FY, FX, FY]), [(FX, FY)])
        self.assertEqual(pairs_of([FK, AX, FX, FK, AY, FY, AX, FX]),
                         [(FK, FX), (FK, FY), (AX, AY), (FX, FY)])

    def test_other_terms(self):
        terms = [X, Y, ONE, HALF, plus(X, Y), plus(Y, X), weigh(1, 2, X), weigh(1, 2, Y), C, D, A, B, put(A, X, Y),
                 put(A, Y, X), read(put(A, X, Y), X), read(put(A, X, Y), Y), read(put(A, Y, X), Y)]
        self.assertEqual(pairs_of(terms), [])
        self.assertEqual(pairs_of(terms + [AX]), [])
        self.assertEqual(pairs_of([AX] + terms + [AY]), [(AX, AY)])

    def test_parts_are_not_looked_into(self):
        self.assertEqual(pairs_of([plus(FX, FY), weigh(2, 1, FX)]), [])
        one = call("f", FX)
        self.assertEqual(pairs_of([one, FY]), [(one, FY)])

    def test_terms_are_told_apart_as_they_stand(self):
        terms = [call("f", plus(X, Y)), call("f", plus(Y, X)), call("f", plus(X, Y, ZERO)), call("f", number(1, 2)),
                 call("f", ONE)]
        self.assertEqual(pairs_of(terms), list(itertools.combinations(terms, 2)))

    def test_deep_ones(self):
        one, other = deep(lambda term: call("f", term), X, 12), deep(lambda term: call("f", term), Y, 12)
        self.assertEqual(pairs_of([one, other, one]), [(one, other)])

    def test_by_a_loop(self):
        chance = random.Random(18)
        stock = [FX, FY, FK, AX, AY, AK, BX, BY, PC, PD, X, plus(FX, FY), read(put(A, X, Y), X), read(put(A, X, Y), Y)]
        for turn in range(200):
            terms = [chance.choice(stock) for many in range(chance.randint(0, 12))]
            once = sorted(set(terms), key=terms.index)
            wanted = [(one, other) for one, other in itertools.combinations(once, 2)
                      if one[0] == other[0] and one[0] in ("call", "read") and one[1] == other[1]
                      and one[1][0] != "put"]
            before = list(terms)
            self.assertEqual(pairs_of(terms), wanted)
            self.assertEqual(terms, before)

    def test_what_is_told_is_the_askers_own(self):
        terms = [FX, FY, FK]
        wanted = pairs_of(terms)
        pairs_of(terms).clear()
        pairs_of(terms)[0] = None
        self.assertEqual(pairs_of(terms), wanted)


class TestChain(unittest.TestCase):
    def check_chain(self, links, one, other):
        """Checks what is told of two terms, and tells it."""
        before = copy.deepcopy(links)
        marks = chain(links, one, other)
        self.assertEqual(links, before)
        if marks is None:
            self.assertFalse(leads(links, one, other))
            return None
        self.assertIsInstance(marks, list)
        at = one
        for place, mark in enumerate(marks):
            self.assertNotIn(mark, marks[:place])
            (start, end), = [link[1:] for link in links if link[0] == mark]
            self.assertIn(at, (start, end))
            at = end if at == start else start
        self.assertEqual(at, other)
        return marks

    def test_same_term(self):
        for links in [[], [(0, X, Y)], [(0, X, X)], [(0, X, Y), (1, Y, X)]]:
            self.assertEqual(chain(links, X, X), [])
            self.assertEqual(chain(links, FX, call("f", X)), [])

    def test_none(self):
        self.assertIsNone(chain([], X, Y))
        self.assertIsNone(chain([(0, X, X), (1, Y, Y)], X, Y))
        self.assertIsNone(chain([(0, X, K), (1, Y, M)], X, Y))
        self.assertIsNone(chain([(0, X, K)], X, Y))
        self.assertIsNone(chain([(0, K, M)], X, Y))
        self.assertIsNone(chain([(0, FX, Y)], X, Y))

    def test_one_link(self):
        self.assertEqual(chain([(7, X, Y)], X, Y), [7])
        self.assertEqual(chain([(7, X, Y)], Y, X), [7])
        self.assertEqual(chain([("mark", C, PC)], PC, C), ["mark"])
        self.assertEqual(chain([((1, "a"), C, PC), (None, PC, D)], D, C), [None, (1, "a")])

    def test_several_links(self):
        self.assertEqual(chain([(0, X, Y), (1, K, Y), (2, K, M)], X, M), [0, 1, 2])
        self.assertEqual(chain([(0, X, Y), (1, K, Y), (2, K, M)], M, X), [2, 1, 0])

    def test_circles_and_links_between_the_same_two(self):
        links = [(0, X, Y), (1, Y, K), (2, K, X), (3, K, M), (4, M, K), (5, X, Y), (6, Y, X), (7, M, M)]
        for one in (X, Y, K, M):
            for other in (X, Y, K, M):
                self.assertIsNotNone(self.check_chain(links, one, other))
            self.assertIsNone(self.check_chain(links, one, FX))

    def test_a_long_one(self):
        terms = [number(many) for many in range(3000)]
        links = [(many, terms[many], terms[many + 1]) for many in range(2999)]
        self.assertEqual(chain(links, terms[0], terms[-1]), list(range(2999)))
        self.assertEqual(chain(links[::-1], terms[-1], terms[0]), list(range(2999))[::-1])

    def test_by_a_loop(self):
        chance = random.Random(19)
        none = 0
        for turn in range(300):
            links = [(("mark", many), chance.choice(TERMS), chance.choice(TERMS))
                     for many in range(chance.randint(0, 10))]
            none += self.check_chain(links, chance.choice(TERMS), chance.choice(TERMS)) is None
        self.assertTrue(50 < none < 250)

    def test_what_is_told_is_the_askers_own(self):
        links = [(0, X, Y), (1, Y, K)]
        for one, other in [(X, K), (X, X)]:
            wanted = chain(links, one, other)
            chain(links, one, other).append(9)
            self.assertEqual(chain(links, one, other), wanted)


class TestClasses(unittest.TestCase):
    def test_no_links(self):
        self.assertEqual(classes([], []), {})
        self.assertEqual(classes([X, Y, FX], []), {X: X, Y: Y, FX: FX})

    def test_first_of_the_list(self):
        self.assertEqual(classes([X, Y, K], [(0, K, Y)]), {X: X, Y: Y, K: Y})
        self.assertEqual(classes([K, Y, X], [(0, X, Y)]), {X: Y, Y: Y, K: K})
        self.assertEqual(classes([K, Y, X], [(0, X, Y), (1, X, K)]), {X: K, Y: K, K: K})

    def test_over_terms_that_are_not_in_the_list(self):
        self.assertEqual(classes([X, Y], [(0, X, K), (1, M, K), (2, M, Y)]), {X: X, Y: X})
        self.assertEqual(classes([X], [(0, Y, X), (1, Y, K)]), {X: X})
        self.assertEqual(classes([X], [(0, Y, K)]), {X: X})
        self.assertEqual(classes([], [(0, Y, K)]), {})

    def test_terms_that_stand_twice(self):
        self.assertEqual(classes([Y, X, Y, X, K], [(0, X, K)]), {Y: Y, X: X, K: X})

    def test_deep_ones(self):
        one, other = deep(lambda term: call("p", term), C, 12), deep(lambda term: call("p", term), D, 12)
        self.assertEqual(classes([one, C, other], [(0, other, D), (1, D, one)]), {one: one, C: C, other: one})

    def test_by_a_loop(self):
        chance = random.Random(20)
        for turn in range(300):
            links = [(many, chance.choice(TERMS), chance.choice(TERMS)) for many in range(chance.randint(0, 7))]
            terms = [chance.choice(TERMS) for many in range(chance.randint(0, 7))]
            before = (list(terms), list(links))
            wanted = {term: [other for other in terms if leads(links, term, other)][0] for term in terms}
            self.assertEqual(classes(terms, links), wanted)
            self.assertEqual((terms, links), before)

    def test_what_is_told_is_the_askers_own(self):
        terms, links = [X, Y], [(0, X, Y)]
        wanted = classes(terms, links)
        classes(terms, links).clear()
        told = classes(terms, links)
        terms.append(K)
        links.clear()
        self.assertEqual(told, wanted)


if __name__ == "__main__":
    unittest.main()
