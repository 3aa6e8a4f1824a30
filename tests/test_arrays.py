"""Points 2, 10 and 16: reads of puts, their hits, misses and needs."""

import unittest

from partproof.arrays import hit, is_read_of_put, miss, need, reads_of_puts
from partproof.worlds import holds, value
from samples import A, B, C, HALF, K, M, ONE, X, Y, ZERO, call, deep, plus, put, read, weigh, world

ONCE = read(put(A, X, Y), K)
TWICE = read(put(put(A, X, Y), M, ONE), K)
THRICE = read(put(put(put(B, ONE, X), X, Y), M, ONE), plus(X, HALF))
INNER = read(put(A, read(put(B, X, ONE), Y), ONCE), ZERO)


class TestOneRead(unittest.TestCase):
    def test_is_read_of_put(self):
        for term in [ONCE, TWICE, THRICE, INNER, read(put(A, X, Y), X)]:
            self.assertIs(is_read_of_put(term), True)
        for term in [X, K, C, A, ONE, HALF, plus(), plus(X, ONCE), weigh(1, 2, ONCE), call("f", ONCE), put(A, X, Y),
                     put(put(A, X, Y), X, ONCE), read(A, X), read(B, ONCE), call("g", C, ONCE)]:
            self.assertIs(is_read_of_put(term), False)

    def test_hit(self):
        self.assertEqual(hit(ONCE), Y)
        self.assertEqual(hit(TWICE), ONE)
        self.assertEqual(hit(INNER), ONCE)

    def test_miss(self):
        self.assertEqual(miss(ONCE), read(A, K))
        self.assertEqual(miss(TWICE), ONCE)
        self.assertEqual(miss(THRICE), read(put(put(B, ONE, X), X, Y), plus(X, HALF)))
        self.assertEqual(miss(INNER), read(A, ZERO))

    def test_need(self):
        self.assertEqual(need(ONCE), ("same", K, X))
        self.assertEqual(need(TWICE), ("same", K, M))
        self.assertEqual(need(THRICE), ("same", plus(X, HALF), M))
        self.assertEqual(need(INNER), ("same", ZERO, read(put(B, X, ONE), Y)))

    def test_values(self):
        own = world()
        for place in [X, Y, K, M, ONE, HALF, ZERO]:
            for other in [X, Y, K, M, ONE, HALF, ZERO]:
                term = read(put(A, other, call("f", HALF)), place)
                wanted = hit(term) if holds(own, need(term)) else miss(term)
                self.assertEqual(value(own, term), value(own, wanted))


class TestReadsOfPuts(unittest.TestCase):
    def test_none(self):
        for terms in [[], [X], [read(A, X), put(A, X, Y), plus(ONCE), call("f", TWICE), read(A, ONCE)]]:
            self.assertEqual(reads_of_puts(terms), [])

    def test_misses_behind_each(self):
        self.assertEqual(reads_of_puts([ONCE]), [ONCE])
        self.assertEqual(reads_of_puts([TWICE]), [TWICE, ONCE])
        self.assertEqual(reads_of_puts([THRICE]), [THRICE, miss(THRICE), miss(miss(THRICE))])
        self.assertEqual(reads_of_puts([X, THRICE, A, TWICE]),
                         [THRICE, miss(THRICE), miss(miss(THRICE)), TWICE, ONCE])

    def test_nothing_twice(self):
        self.assertEqual(reads_of_puts([ONCE, TWICE, ONCE]), [ONCE, TWICE])
        self.assertEqual(reads_of_puts([TWICE, TWICE, ONCE]), [TWICE, ONCE])
        other = read(put(put(A, X, Y), M, X), K)
        self.assertEqual(reads_of_puts([TWICE, other]), [TWICE, ONCE, other])

    def test_parts_are_not_looked_into(self):
        self.assertEqual(reads_of_puts([INNER]), [INNER])
        self.assertEqual(reads_of_puts([INNER, plus(TWICE), ONCE]), [INNER, ONCE])

    def test_deep_one(self):
        term = read(deep(lambda array: put(array, ONE, X), A, 11), Y)
        reads = reads_of_puts([term, term])
        self.assertEqual(len(reads), 10)
        self.assertEqual(reads, [term] + [miss(one) for one in reads[:-1]])
        self.assertEqual(miss(reads[-1]), read(A, Y))

    def test_what_is_handed_in_stays(self):
        terms = [TWICE, X]
        told = reads_of_puts(terms)
        told.clear()
        self.assertEqual(terms, [TWICE, X])
        self.assertEqual(reads_of_puts(terms), [TWICE, ONCE])


if __name__ == "__main__":
    unittest.main()
