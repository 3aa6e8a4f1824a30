"""Points 2, 5 and 7: terms, their kinds, their parts."""

import unittest

from partproof.errors import BadTerm
from partproof.names import Names
from partproof.terms import kind_of, parts_of
from samples import (A, ARRAY_WRAPS, B, C, D, HALF, K, M, NUM_WRAPS, ONE, THING_WRAPS, X, Y, ZERO, call, deep, names,
                     number, other_kinds, plus, put, read, unknown, weigh)

WRAPS = [(wrap, X, "num") for wrap in NUM_WRAPS] + [(wrap, C, "thing") for wrap in THING_WRAPS]
WRAPS += [(wrap, A, "array") for wrap in ARRAY_WRAPS]

NUMS = [ONE, ZERO, HALF, number(-7, 3), number(10 ** 59), number(1, 10 ** 59), X, Y, K, M, weigh(0, 1, X),
        weigh(-1, 2, K), plus(), plus(X), plus(X, X, ONE), plus(*[K] * 200), call("f", X), call("h", C, D, ONE),
        call("f", call("f", K)), read(A, X), read(put(A, X, Y), K), read(put(put(B, ONE, X), K, M), plus()),
        call("h", call("g", C, X), call("p", D), read(A, ONE))]
THINGS = [C, D, call("p", C), call("g", D, HALF), call("g", call("p", call("g", C, X)), read(A, X))]
ARRAYS = [A, B, put(A, ONE, X), put(put(A, X, Y), read(A, X), call("f", K))]

FRACTIONS = [(2, 2), (0, 2), (1, 0), (1, -1), (0, 0), (1,), (), (1, 2, 3), [1, 2], 1, None, True, "1", (True, 1),
             (1, True), ("1", "2"), {1: 2}]
# Each is no term, but of lengths and words that come close to one.
WRONG = [("number",), ("number", (1, 1), (1, 1)), ("unknown",), ("unknown", "x", "x"), ("unknown", "z"),
         ("unknown", ""), ("unknown", "X"), ("unknown", "f"), ("unknown", ["x"]), ("unknown", ("x",)),
         ("unknown", None), ("unknown", {}), ("unknown", b"x"), ("unknown", 1), ("unknown", X),
         ("weigh",), ("weigh", (1, 1)), ("weigh", (1, 1), X, X), ("weigh", X, (1, 1)), ("weigh", ONE, X),
         ("weigh", (1, 1), (X,)), ("weigh", (1, 1), C), ("weigh", (1, 1), A), ("weigh", (1, 1), "x"),
         ("plus",), ("plus", X), ("plus", X, X), ("plus", (X,), (X,)), ("plus", [X]), ("plus", []), ("plus", None),
         ("plus", "x"), ("plus", ""), ("plus", {}), ("plus", (C,)), ("plus", (X, A)), ("plus", ((X,),)),
         ("plus", (X, None)), ("call",), ("call", "f"), ("call", "f", X), ("call", "f", (X,), (X,)),
         ("call", "f", [X]), ("call", "f", ()), ("call", "f", (X, X)), ("call", "f", (C,)), ("call", "f", (A,)),
         ("call", "g", (C,)), ("call", "g", (C, X, X)), ("call", "g", (X, C)), ("call", "g", (C, C)),
         ("call", "g", (X, X)), ("call", "h", (C, D)), ("call", "h", (C, D, X, X)), ("call", "h", (C, X, D)),
         ("call", "x", (X,)), ("call", "c", (X,)), ("call", "a", (X,)), ("call", "k", (X,)), ("call", "z", (X,)),
         ("call", "F", (X,)), ("call", ["f"], (X,)), ("call", ("f",), (X,)), ("call", None, (X,)), ("call", {}, (X,)),
         ("call", "f", "x"), ("call", "f", None), ("call", "f", {"x": X}), ("read",), ("read", A), ("read", A, X, X),
         ("read", X, A), ("read", X, X), ("read", C, X), ("read", A, C), ("read", A, B), ("read", "a", X),
         ("read", (A, X)), ("read", A, (X,)), ("put",), ("put", A, X), ("put", A, X, X, X), ("put", X, X, X),
         ("put", A, C, X), ("put", A, X, C), ("put", A, A, X), ("put", A, X, A), ("put", C, X, X), ("put", "a", X, X),
         ("put", (A, X, X)), ("minus", X, Y), ("times", X, Y), ("Number", (1, 1)), ("number ", (1, 1)), ("", "x"),
         ("atmost", X, Y), ("same", X, Y), ("and", ()), ("not", X), (X,), (X, Y), ("x",), ("num", X), ("thing", "c"),
         ("array", "a"), [["number"], (1, 1)], ["number", (1, 1)], ["unknown", "x"], ["plus", ()]]
WRONG += [("number", part) for part in FRACTIONS] + [("weigh", part, X) for part in FRACTIONS]


class TestKindOf(unittest.TestCase):
    def refused(self, term):
        # The words of a failure do not show the term: it may be too deep to be shown.
        with self.assertRaises(BadTerm):
            kind_of(names(), term)

    def test_each_kind(self):
        for terms, kind in [(NUMS, "num"), (THINGS, "thing"), (ARRAYS, "array")]:
            for term in terms:
                self.assertEqual(kind_of(names(), term), kind)

    def test_other_names_have_other_terms(self):
        few = Names(["c"], [], ["x"], [("f", ("thing",), "thing")], ["k"])
        self.assertEqual(kind_of(few, C), "num")
        self.assertEqual(kind_of(few, call("f", X)), "thing")
        self.assertEqual(kind_of(few, read(K, C)), "num")
        for term in [call("f", C), A, read(A, C), Y, plus(X)]:
            with self.assertRaises(BadTerm):
                kind_of(few, term)

    def test_twelve_deep(self):
        for wrap, leaf, kind in WRAPS:
            for many in [1, 2, 11, 12]:
                self.assertEqual(kind_of(names(), deep(wrap, leaf, many)), kind)

    def test_more_than_twelve_deep(self):
        for wrap, leaf, kind in WRAPS:
            for many in [13, 14, 20, 100]:
                self.refused(deep(wrap, leaf, many))

    def test_thousands_deep(self):
        for wrap, leaf, kind in WRAPS:
            self.refused(deep(wrap, leaf, 2400))
        for wrap in (NUM_WRAPS[0], NUM_WRAPS[1], NUM_WRAPS[3]):
            self.refused(deep(wrap, X, 10000))
        self.refused(deep(THING_WRAPS[0], C, 10000))

    def test_depth_is_that_of_the_deepest(self):
        for many, wanted in [(11, True), (12, False)]:
            inner = deep(NUM_WRAPS[0], plus(), many)
            for term in [plus(X, inner), plus(inner, X), call("h", C, D, inner), read(A, inner),
                         read(put(A, deep(NUM_WRAPS[0], X, many - 1), X), X), put(A, inner, X), put(A, X, inner),
                         call("g", C, inner)]:
                if wanted:
                    self.assertIn(kind_of(names(), term), ("num", "thing", "array"))
                else:
                    self.refused(term)

    def test_sum_of_none_is_one_deep(self):
        self.assertEqual(kind_of(names(), deep(NUM_WRAPS[1], plus(), 12)), "num")
        self.refused(deep(NUM_WRAPS[1], plus(), 13))

    def test_many_parts_that_are_too_deep(self):
        self.refused(plus(*[deep(NUM_WRAPS[0], X, 13)] * 700))
        self.refused(plus(*([X] * 9000 + [deep(NUM_WRAPS[0], X, 900)])))

    def test_deep_things_that_are_no_terms(self):
        nest = ()
        for turn in range(9000):
            nest = (nest,)
        for term in [nest, ("number", nest), ("unknown", nest), ("weigh", nest, X), ("plus", nest),
                     ("call", nest, (X,)), ("call", "f", nest), ("read", nest, X), (nest, X), ("number", (nest, 1))]:
            self.refused(term)

    def test_wrong_ones(self):
        for term in WRONG + other_kinds():
            self.refused(term)

    def test_wrong_ones_deep_inside(self):
        for term in WRONG + other_kinds():
            for wrap in NUM_WRAPS + THING_WRAPS + ARRAY_WRAPS:
                self.refused(wrap(term))
            self.refused(deep(NUM_WRAPS[2], term, 12))
            self.refused(put(A, X, deep(NUM_WRAPS[5], term, 6)))
            self.refused(call("g", call("p", term), X))

    def test_a_kind_in_the_place_of_another(self):
        for wraps, wrong in [(NUM_WRAPS, THINGS + ARRAYS), (ARRAY_WRAPS, NUMS + THINGS), (THING_WRAPS, NUMS + ARRAYS)]:
            for wrap in wraps:
                for term in wrong:
                    self.refused(wrap(term))

    def test_the_same_each_time(self):
        told = names()
        for turn in range(3):
            self.assertEqual(kind_of(told, NUMS[-1]), "num")
            with self.assertRaises(BadTerm):
                kind_of(told, ("plus", [X]))


class TestPartsOf(unittest.TestCase):
    def test_each_once_inner_ones_ahead(self):
        for term in NUMS + THINGS + ARRAYS:
            parts = parts_of(term)
            self.assertIs(type(parts), list)
            self.assertEqual(parts[-1], term)
            for place, part in enumerate(parts):
                self.assertNotIn(part, parts[:place])
                for inner in parts_of(part)[:-1]:
                    self.assertIn(inner, parts[:place])

    def test_written_ones(self):
        self.assertEqual(parts_of(X), [X])
        self.assertEqual(parts_of(HALF), [HALF])
        self.assertEqual(parts_of(plus()), [plus()])
        self.assertEqual(parts_of(weigh(1, 2, X)), [X, weigh(1, 2, X)])
        self.assertEqual(parts_of(plus(X, X)), [X, plus(X, X)])
        self.assertEqual(parts_of(call("p", call("p", C))), [C, call("p", C), call("p", call("p", C))])
        self.assertEqual(sorted(parts_of(read(A, X))), sorted([A, X, read(A, X)]))

    def test_all_parts_are_there(self):
        term = read(put(put(A, X, ONE), call("h", C, call("p", D), K), weigh(1, 2, M)), plus(Y, HALF, X))
        wanted = [A, X, ONE, put(A, X, ONE), C, D, call("p", D), K, call("h", C, call("p", D), K), M,
                  weigh(1, 2, M), Y, HALF, plus(Y, HALF, X), term[1], term]
        parts = parts_of(term)
        self.assertEqual(len(parts), len(wanted))
        for part in wanted:
            self.assertIn(part, parts)

    def test_what_looks_alike_is_not_the_same(self):
        pairs = [(weigh(1, 2, X), weigh(1, 3, X)), (call("p", C), call("g", C, X)), (plus(X, Y), plus(Y, X)),
                 (plus(X), plus(X, X)), (read(A, X), read(B, X)), (ONE, weigh(1, 1, ONE)), (number(1, 2), number(2)),
                 (X, unknown("xx")), (put(A, X, Y), put(A, Y, X)), (plus(plus(X), Y), plus(plus(X, Y)))]
        for one, other in pairs:
            parts = parts_of(("plus", (one, other)))
            self.assertIn(one, parts)
            self.assertIn(other, parts)

    def test_new_lists_each_time(self):
        term = plus(X, weigh(1, 2, Y))
        first = parts_of(term)
        wanted = list(first)
        first.clear()
        self.assertEqual(parts_of(term), wanted)
        self.assertIsNot(parts_of(term), parts_of(term))

    def test_twelve_deep_and_wide(self):
        for wrap, leaf, kind in WRAPS:
            term = deep(wrap, leaf, 12)
            self.assertEqual(len([part for part in parts_of(term) if part == term]), 1)
            self.assertGreaterEqual(len(parts_of(term)), 12)
        self.assertEqual(len(parts_of(plus(*[number(top) for top in range(310)]))), 311)


if __name__ == "__main__":
    unittest.main()
