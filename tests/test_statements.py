"""Points 2, 6 and 7: statements, their atoms and terms."""

import unittest

from partproof.errors import BadStatement
from partproof.statements import atoms_of, check_statement, terms_of
from partproof.terms import parts_of
from samples import (A, B, C, D, K, NUM_WRAPS, ONE, THING_WRAPS, X, Y, ZERO, call, deep, names, other_kinds, plus, put,
                     read, weigh)

TRUE, FALSE = ("and", ()), ("or", ())
LESS, MOST, LIKE, ALIKE = ("below", X, Y), ("atmost", X, K), ("same", X, ONE), ("same", C, D)
STATEMENTS = [TRUE, FALSE, LESS, MOST, LIKE, ALIKE, ("not", TRUE), ("not", LESS), ("and", (LESS,)), ("or", (ALIKE,)),
              ("and", (LESS, MOST, ("or", (LIKE, ("not", ALIKE), FALSE)))), ("atmost", plus(), ZERO),
              ("same", call("p", C), call("g", D, X)), ("same", read(put(A, X, Y), K), call("h", C, D, K)),
              ("and", (LESS,) * 100)]
# Each wraps a statement into one that is one deeper.
WRAPS = (lambda part: ("not", part), lambda part: ("and", (part,)), lambda part: ("or", (TRUE, part)),
         lambda part: ("and", (part, FALSE)))
WRONG = [("atmost",), ("atmost", X), ("atmost", X, Y, Y), ("below", X), ("same", X), ("same", X, Y, X),
         ("atmost", (X, Y)), ("atmost", C, D), ("below", C, D), ("atmost", X, C), ("below", C, X), ("same", X, C),
         ("same", C, X), ("same", A, B), ("same", A, A), ("atmost", A, B), ("below", A, A), ("same", A, X),
         ("same", put(A, X, Y), put(A, X, Y)), ("same", C, A), ("same", X, ("unknown", "z")), ("same", X, None),
         ("same", "x", "x"), ("below", X, ("plus", [Y])), ("atmost", ("number", (2, 2)), X), ("atmost", LESS, LESS),
         ("same", LESS, LESS), ("below", X, call("f", C)), ("not",), ("not", LESS, LESS), ("not", (LESS,)),
         ("not", [LESS]), ("not", X), ("not", None), ("not", True), ("and",), ("and", LESS), ("and", LESS, LESS),
         ("and", [LESS]), ("and", []), ("and", None), ("and", ""), ("and", {}), ("and", (X,)), ("and", (LESS, None)),
         ("and", (LESS, True)), ("and", ((LESS,),)), ("or",), ("or", LESS), ("or", [LESS]), ("or", []), ("or", (C,)),
         ("or", (LESS, "x")), ("or", (), ()), ("And", ()), ("and ", ()), ("equal", X, Y), ("less", X, Y),
         ("xor", (LESS,)), (LESS, True), (LESS,), ["and", ()], ["not", LESS], ["atmost", X, Y], X, C, A, plus(), ONE]


class TestCheckStatement(unittest.TestCase):
    def refused(self, statement):
        # The words of a failure do not show the statement: it may be too deep to be shown.
        with self.assertRaises(BadStatement):
            check_statement(names(), statement)

    def test_each_sort(self):
        for statement in STATEMENTS:
            self.assertIsNone(check_statement(names(), statement))

    def test_twelve_deep(self):
        for wrap in WRAPS:
            for leaf, own in [(TRUE, 1), (FALSE, 1), (LESS, 2), (("same", weigh(1, 2, X), Y), 3)]:
                self.assertIsNone(check_statement(names(), deep(wrap, leaf, 13 - own)))
                for many in [14 - own, 15 - own, 30]:
                    self.refused(deep(wrap, leaf, many))

    def test_terms_in_atoms_count(self):
        for word in ("atmost", "below", "same"):
            for wrap in NUM_WRAPS:
                term = deep(wrap, X, 11)
                self.assertIsNone(check_statement(names(), (word, term, Y)))
                self.assertIsNone(check_statement(names(), (word, Y, term)))
                self.refused(("not", (word, Y, term)))
                self.refused((word, wrap(term), Y))
                self.refused((word, Y, wrap(term)))
        for wrap in THING_WRAPS:
            self.assertIsNone(check_statement(names(), ("same", C, deep(wrap, C, 11))))
            self.refused(("same", C, deep(wrap, C, 12)))

    def test_thousands_deep(self):
        for wrap in WRAPS:
            self.refused(deep(wrap, LESS, 1500))
        self.refused(deep(WRAPS[0], TRUE, 10000))
        self.refused(deep(WRAPS[1], LESS, 9990))
        self.refused(("same", X, deep(NUM_WRAPS[0], X, 9990)))
        self.refused(("same", deep(THING_WRAPS[0], C, 9990), C))
        self.refused(deep(WRAPS[0], ("same", X, deep(NUM_WRAPS[1], X, 5000)), 4900))
        self.refused(("and", (LESS,) * 3000 + (deep(WRAPS[1], LESS, 500),)))

    def test_deep_things_that_are_no_statements(self):
        nest = ()
        for turn in range(9000):
            nest = (nest,)
        for statement in [nest, (nest, LESS), ("not", nest), ("and", nest), ("same", nest, X), ("same", X, nest),
                          ("below", ("number", nest), X)]:
            self.refused(statement)

    def test_wrong_ones(self):
        for statement in WRONG + other_kinds():
            self.refused(statement)

    def test_wrong_ones_deep_inside(self):
        for statement in WRONG + other_kinds():
            for wrap in WRAPS:
                self.refused(wrap(statement))
                self.refused(deep(wrap, statement, 8))

    def test_wrong_terms(self):
        for thing in other_kinds() + [("unknown", "z"), ("call", "f", (C,)), ("plus", [X])]:
            for word in ("atmost", "below", "same"):
                self.refused((word, thing, X))
                self.refused((word, X, thing))
                self.refused((word, thing, thing))
                self.refused((word, C, thing))
                self.refused((word, X, weigh(1, 2, plus(thing))))


class TestAtomsOf(unittest.TestCase):
    def test_atoms_in_the_order_in_which_they_first_come(self):
        statement = ("or", (("not", MOST), ("and", (LESS, MOST, ALIKE)), FALSE, LESS, ("not", ("not", LIKE)), ALIKE))
        self.assertEqual(atoms_of(statement), [MOST, LESS, ALIKE, LIKE])

    def test_of_atoms_and_of_none(self):
        for atom in [LESS, MOST, LIKE, ALIKE]:
            self.assertEqual(atoms_of(atom), [atom])
            self.assertEqual(atoms_of(("not", atom)), [atom])
        for statement in [TRUE, FALSE, ("not", TRUE), ("and", (TRUE, FALSE, ("not", FALSE)))]:
            self.assertEqual(atoms_of(statement), [])
            self.assertEqual(terms_of(statement), [])

    def test_unlike_atoms_of_the_same_terms(self):
        atoms = [("below", X, Y), ("atmost", X, Y), ("same", X, Y), ("below", Y, X), ("same", Y, X), ("same", X, X)]
        self.assertEqual(atoms_of(("and", tuple(atoms))), atoms)
        self.assertEqual(atoms_of(("and", tuple(reversed(atoms)) + tuple(atoms))), list(reversed(atoms)))

    def test_terms_inner_ones_ahead(self):
        for statement in STATEMENTS:
            terms = terms_of(statement)
            self.assertIs(type(terms), list)
            wanted = [part for atom in atoms_of(statement) for term in atom[1:] for part in parts_of(term)]
            for part in wanted:
                self.assertEqual(terms.count(part), 1)
            for place, term in enumerate(terms):
                self.assertIn(term, wanted)
                for inner in parts_of(term)[:-1]:
                    self.assertIn(inner, terms[:place])

    def test_written_terms(self):
        self.assertEqual(sorted(terms_of(("below", plus(X, Y), X))), sorted([X, Y, plus(X, Y)]))
        self.assertEqual(terms_of(("not", ("same", X, weigh(1, 2, X)))), [X, weigh(1, 2, X)])

    def test_new_lists_each_time(self):
        for statement in STATEMENTS:
            for ask in (atoms_of, terms_of):
                first = ask(statement)
                wanted = list(first)
                first.append(X)
                self.assertEqual(ask(statement), wanted)
                self.assertIsNot(ask(statement), ask(statement))

    def test_twelve_deep(self):
        statement = deep(lambda part: ("and", (part, LESS)), ("same", deep(NUM_WRAPS[4], X, 6), Y), 6)
        self.assertIsNone(check_statement(names(), statement))
        self.assertEqual(atoms_of(statement), [("same", deep(NUM_WRAPS[4], X, 6), Y), LESS])
        self.assertEqual(len(terms_of(statement)), 9)


if __name__ == "__main__":
    unittest.main()
