"""Points 2, 21 and 22: books, what is false by a path alone, what is let by."""

import copy
import unittest

from partproof.books import is_false, lets_by
from partproof.errors import BadStatement, PartError
from partproof.steps import is_clash
from samples import (A, C, D, K, NUM_WRAPS, ONE, X, Y, ZERO, as_list, as_other_truth, call, changed_somewhere,
                     deep, names, number, other_kinds, plus, put, read, weigh)

P, Q, R = ("below", X, Y), ("same", C, D), ("atmost", K, ONE)
NEVER, ALWAYS = ("or", ()), ("and", ())
FX, FY = call("f", X), call("f", Y)
PUT = read(put(A, X, K), Y)


def negated(statement):
    return ("not", statement)


def every(*statements):
    return ("and", statements)


def some(*statements):
    return ("or", statements)


def told(atom, sign=True):
    return ("told", atom, sign)


def summed(*numbers):
    return ("sum", tuple([(step, (1, 1)) for step in numbers]))


# The clash of two literals of one atom.
BOTH_SIGNS = ("clash", (told(P), told(P, False), summed(0, 1), ("end", 2)))

# Told statements, and books that are let by for them.
GOOD = [
    ((NEVER,), ("plain", 0)),
    ((P, NEVER, Q), ("plain", 1)),
    ((P, negated(P)), ("case", P, ("plain", 1), ("plain", 0))),
    ((some(P, Q), negated(P), negated(Q)), ("case", P, ("plain", 1), ("case", Q, ("plain", 2), ("plain", 0)))),
    ((every(P, ("below", Y, X)),),
     ("case", P, ("case", ("below", Y, X),
                  ("clash", (told(P), told(("below", Y, X)), summed(0, 1), ("end", 2))), ("plain", 0)), ("plain", 0))),
    ((("same", weigh(2, 1, K), number(3)),),
     ("case", ("same", weigh(2, 1, K), number(3)),
      ("clash", (told(("same", weigh(2, 1, K), number(3))), ("round", 0), ("end", 1))), ("plain", 0))),
    ((("atmost", number(6), K),),
     ("case", ("atmost", number(6), K),
      ("clash", (told(("atmost", number(6), K)), ("bound", "k", "high"), summed(0, 1), ("end", 2))), ("plain", 0))),
    ((("below", weigh(3, 1, K), number(4)), ("below", number(2), weigh(3, 1, K)), negated(("same", K, ONE))),
     ("case", ("below", weigh(3, 1, K), number(4)),
      ("case", ("below", number(2), weigh(3, 1, K)),
       ("case", ("same", K, ONE), ("plain", 2),
        ("cut", "k", 0,
         ("clash", (told(("atmost", K, ZERO)), told(("below", number(2), weigh(3, 1, K))),
                    ("sum", ((0, (3, 1)), (1, (1, 1)))), ("end", 2))),
         ("cut", "k", 1,
          ("clash", (told(("atmost", K, ONE)), told(("atmost", ONE, K)), ("both", 0, 1), told(("same", K, ONE), False),
                     ("end", 2, 3))),
          ("clash", (told(("atmost", number(2), K)), told(("below", weigh(3, 1, K), number(4))),
                     ("sum", ((0, (3, 1)), (1, (1, 1)))), ("end", 2)))))), ("plain", 1)), ("plain", 0))),
    ((negated(("same", PUT, K)), ("same", X, Y)),
     ("case", ("same", X, Y),
      ("case", ("same", PUT, K), ("plain", 0),
       ("clash", (told(("same", X, Y)), ("hit", PUT, 0), told(("same", PUT, K), False), ("end", 1, 2)))),
      ("plain", 1))),
]


class TestIsFalse(unittest.TestCase):
    def check(self, statement, path, truth):
        """Checks a statement and its negations, by the truth that the path gives it, None where it is open."""
        before = copy.deepcopy(path)
        self.assertIs(is_false(statement, path), truth is False)
        self.assertIs(is_false(negated(statement), path), truth is True)
        self.assertIs(is_false(negated(negated(statement)), path), truth is False)
        self.assertEqual(path, before)

    def test_atoms(self):
        for atom in (P, Q, R):
            self.check(atom, (), None)
            self.check(atom, ((atom, True),), True)
            self.check(atom, ((atom, False),), False)
            self.check(atom, ((("atmost", Y, X), False), (atom, False)), False)

    def test_the_first_literal_counts(self):
        self.check(P, ((P, True), (P, False)), True)
        self.check(P, ((Q, False), (P, False), (P, True), (P, True)), False)

    def test_as_it_stands(self):
        for other in [("below", Y, X), ("atmost", X, Y), ("below", plus(X), Y), ("same", X, Y), ("same", D, C)]:
            self.check(P, ((other, True), (other, False)), None)
        self.check(("atmost", ZERO, ONE), (), None)
        self.check(("below", ONE, ZERO), (), None)

    def test_and_or(self):
        values = {True: P, False: Q, None: R}
        path = ((P, True), (Q, False))
        self.check(ALWAYS, (), True)
        self.check(NEVER, (), False)
        for one in values:
            self.check(every(values[one]), path, one)
            self.check(some(values[one]), path, one)
            for other in values:
                pair = (one, other)
                self.check(every(values[one], values[other]), path,
                           False if False in pair else None if None in pair else True)
                self.check(some(values[one], values[other]), path,
                           True if True in pair else None if None in pair else False)
        for one in values:
            for other in values:
                for third in values:
                    row = (one, other, third)
                    parts = [values[part] for part in row]
                    self.check(every(*parts), path, False if False in row else None if None in row else True)
                    self.check(some(*parts), path, True if True in row else None if None in row else False)

    def test_within_one_another(self):
        path = ((P, True), (Q, False))
        self.check(every(some(Q, P), negated(some(Q, Q))), path, True)
        self.check(every(some(Q, R), negated(P)), path, False)
        self.check(some(every(P, R), every(R, negated(Q))), path, None)
        self.check(some(R, negated(R)), path, None)
        self.check(deep(lambda inner: every(ALWAYS, some(NEVER, inner)), Q, 5), path, False)
        self.check(deep(negated, P, 10), path, False)

    def test_deep_atoms(self):
        atom = ("below", deep(NUM_WRAPS[3], X, 11), ONE)
        self.check(atom, ((("below", deep(NUM_WRAPS[3], Y, 11), ONE), True), (atom, False)), False)


class TestLetsBy(unittest.TestCase):
    def check(self, statements, book, wanted):
        self.assertIs(lets_by(names(), statements, book), wanted)

    def test_right_ones(self):
        for statements, book in GOOD:
            before = copy.deepcopy((statements, book))
            self.check(statements, book, True)
            self.assertEqual((statements, book), before)

    def test_plain(self):
        statements = (P, NEVER, some(Q), negated(Q))
        for number_of, wanted in [(0, False), (1, True), (2, False), (3, False), (4, False), (-1, False), (-3, False),
                                  (True, False), (False, False), (None, False), ("1", False), ((1,), False)]:
            self.check(statements, ("plain", number_of), wanted)
        self.check(statements, ("case", Q, ("plain", 3), ("plain", 2)), True)
        self.check(statements, ("case", Q, ("plain", 2), ("plain", 2)), False)
        self.check(statements, ("case", Q, ("plain", 3), ("plain", 3)), False)
        self.check((), ("plain", 0), False)
        for book in [("plain",), ("plain", 1, 1), ["plain", 1], ("plane", 1), (b"plain", 1), "plain", ("Plain", 1)]:
            self.check(statements, book, False)

    def test_clash(self):
        good = (told(P), told(("below", Y, X)), summed(0, 1), ("end", 2))
        within = ("case", P, ("case", ("below", Y, X), ("clash", good), ("plain", 0)), ("plain", 0))
        self.check((every(P, ("below", Y, X)),), within, True)
        for steps in [good[:-1], good[1:], good + good, (), list(good), None, good[0], (good,),
                      good[:3] + (("end", 1),), good[:2] + (("sum", ((0, (1, 1)),)), ("end", 2))]:
            within = ("case", P, ("case", ("below", Y, X), ("clash", steps), ("plain", 0)), ("plain", 0))
            self.check((every(P, ("below", Y, X)),), within, False)
        self.check((every(P, ("below", Y, X)),), ("clash", good), False)
        self.check((NEVER,), ("clash",), False)
        self.check((NEVER,), ("clash", good, good), False)

    def test_case(self):
        plain = ("plain", 0)
        for atom in (P, Q, R, ("same", X, FX), ("below", ONE, ZERO)):
            self.check((NEVER,), ("case", atom, plain, plain), True)
            self.check((NEVER,), ("case", atom, plain, ("plain", 1)), False)
            self.check((NEVER,), ("case", atom, ("plain", 1), plain), False)
            self.check((atom, negated(atom)), ("case", atom, ("plain", 1), ("plain", 0)), True)
            self.check((atom, negated(atom)), ("case", atom, ("plain", 0), ("plain", 1)), False)
        for atom in [negated(P), ALWAYS, NEVER, every(P), X, ("below", X, C), ("same", A, A), ("atmost", C, D), list(P),
                     ("below", X), ("below", X, ("unknown", "zz")), None, (), "below", ("below", X, Y, Y),
                     ("below", X, ("number", (True, 1))), ("below", X, ("number", (2, 4)))]:
            self.check((NEVER,), ("case", atom, plain, plain), False)
        for book in [("case", P, plain), ("case", P, plain, plain, plain), ("case", plain, plain),
                     ["case", P, plain, plain]]:
            self.check((NEVER,), book, False)

    def test_a_case_in_a_case(self):
        # The first literal of the path with an atom counts; a step may tell each.
        self.check((P,), ("case", P, ("case", P, ("plain", 0), ("plain", 0)), ("plain", 0)), False)
        self.check((negated(P),), ("case", P, ("case", P, ("plain", 0), ("plain", 0)), ("plain", 0)), False)
        self.check((P, negated(P)), ("case", P, ("case", P, ("plain", 1), ("plain", 1)), ("plain", 0)), True)
        self.check((P, negated(P)), ("case", P, ("case", P, ("plain", 1), BOTH_SIGNS), ("plain", 0)), True)
        self.check((P, negated(P)), ("case", P, ("case", P, BOTH_SIGNS, ("plain", 1)), ("plain", 0)), False)
        self.check((P, negated(P)), ("case", P, ("plain", 1), ("case", P, BOTH_SIGNS, ("plain", 0))), True)
        self.check((P, negated(P)), ("case", P, ("plain", 1), ("case", P, ("plain", 1), ("plain", 0))), False)

    def test_no_literal_stays_behind(self):
        # What stands in the one book of a case is not there in the other.
        inner = ("case", Q, ("plain", 1), ("plain", 2))
        statements = (P, negated(Q), Q)
        self.check(statements, ("case", P, inner, ("plain", 0)), True)
        self.check(statements, ("case", P, inner, ("plain", 1)), False)
        self.check(statements, ("case", P, inner, ("plain", 2)), False)
        self.check(statements, ("case", P, ("plain", 1), inner), False)
        self.check((Q, negated(P), P), ("case", P, ("case", Q, ("plain", 1), ("plain", 0)), ("plain", 1)), False)

    def test_cut(self):
        def at_cut(name, number_of, low, high):
            unknown = ("unknown", name)
            one, other = ("atmost", unknown, number(number_of)), ("atmost", number(number_of + 1), unknown)
            return ((negated(one), negated(other)), ("cut", name, number_of, low, high))

        for name in ("k", "m"):
            for number_of in (-70, -3, 0, 2, 5, 70, 10 ** 59):
                self.check(*at_cut(name, number_of, ("plain", 0), ("plain", 1)), True)
                self.check(*at_cut(name, number_of, ("plain", 1), ("plain", 0)), False)
                self.check(*at_cut(name, number_of, ("plain", 0), ("plain", 0)), False)
        never = ("plain", 0)
        for book in [("cut", "x", 0, never, never), ("cut", "c", 0, never, never), ("cut", "zz", 0, never, never),
                     ("cut", K, 0, never, never), ("cut", None, 0, never, never), ("cut", "k", True, never, never),
                     ("cut", "k", False, never, never), ("cut", "k", (0, 1), never, never),
                     ("cut", "k", "0", never, never), ("cut", "k", None, never, never), ("cut", "k", 0, never),
                     ("cut", "k", 0, never, never, never), ["cut", "k", 0, never, never],
                     ("cut", ["k"], 0, never, never), ("cut", "k", number(0), never, never),
                     ("cut", "k", 0, never, ("plain", 1)), ("cut", "k", 0, None, never)]:
            self.check((NEVER,), book, False)
        self.check((NEVER,), ("cut", "k", 0, never, never), True)

    def test_each_whole_by_cuts(self):
        bounds = {"low": ("bound", "k", "low"), "high": ("bound", "k", "high")}
        book = ("clash", (told(("atmost", number(6), K)), bounds["high"], summed(0, 1), ("end", 2)))
        for value in range(5, -1, -1):
            low, high = ("atmost", number(value), K), ("atmost", K, number(value))
            at_value = ("case", ("same", K, number(value)), ("plain", value),
                        ("clash", (told(high), bounds["low"] if value == 0 else told(low), ("both", 0, 1),
                                   told(("same", K, number(value)), False), ("end", 2, 3))))
            book = ("cut", "k", value, at_value, book)
        statements = tuple([negated(("same", K, number(value))) for value in range(6)])
        self.check(statements, book, True)
        for at in range(6):
            self.check(statements[:at] + (ALWAYS,) + statements[at + 1:], book, False)

    def test_deep_atoms_and_terms(self):
        for wrap in NUM_WRAPS:
            for many, wanted in [(11, True), (12, False), (13, False), (5000, False)]:
                atom = ("below", deep(wrap, X, many), ONE)
                self.check((NEVER,), ("case", atom, ("plain", 0), ("plain", 0)), wanted)
                steps = (told(P), told(P, False), ("apart", None, ONE, deep(wrap, X, many)), summed(0, 1), ("end", 3))
                self.check((P,), ("case", P, ("case", P, ("plain", 0), ("clash", steps)), ("plain", 0)), False)
        for many, wanted in [(12, True), (13, False), (5000, False)]:
            deepest = deep(lambda term: plus(term), ONE, many)
            steps = (("apart", None, ZERO, deepest), told(P), told(P, False), summed(1, 2), ("end", 3))
            self.check((P, negated(P)), ("case", P, ("case", P, ("plain", 1), ("clash", steps)), ("plain", 0)), wanted)

    def test_a_thousand_cases_deep(self):
        for many in (1000, 4900):
            book = ("plain", 0)
            for turn in range(many):
                atom = ("below", X, number(turn))
                book = ("case", atom, book, ("plain", 0)) if turn & 1 else ("case", atom, ("plain", 0), book)
            self.check((NEVER,), book, True)
            self.check((P,), book, False)
            self.check((NEVER,), deep(lambda inner: ("case", P, inner, ("plain", 0)), ("plain", 1), many), False)
            self.check((NEVER,), deep(lambda inner: ("cut", "k", 1, ("plain", 0), inner), ("plain", 0), many), True)
            self.check((NEVER,), deep(lambda inner: ("case", P, inner), ("plain", 0), many), False)
            self.check((NEVER,), deep(lambda inner: ["case", P, inner, inner], ("plain", 0), many), False)

    def test_literals_from_far_above(self):
        # At the end of a long path the first and the last literals clash.
        first, last = ("below", X, number(0)), ("below", number(0), X)
        book = ("clash", (told(first), told(last), summed(0, 1), ("end", 2)))
        book = ("case", last, book, ("plain", 1))
        for turn in range(1, 1000):
            book = ("case", ("below", Y, number(turn)), ("plain", 2), book)
        statements = (first, last) + (every(*[negated(("below", Y, number(turn))) for turn in range(1, 40)]),)
        self.check(statements, ("case", first, book, ("plain", 0)), False)
        statements = (first, last, NEVER)
        self.check(statements, ("case", first, book, ("plain", 0)), True)
        self.check(statements, ("case", first, book, ("plain", 1)), False)
        self.check((first, last, P), ("case", first, book, ("plain", 0)), False)

    def test_lists_in_the_place_of_tuples(self):
        for statements, book in GOOD:
            for changed in changed_somewhere(book, as_list):
                self.check(statements, changed, False)

    def test_truths_and_numbers(self):
        for statements, book in GOOD:
            for changed in changed_somewhere(book, as_other_truth):
                self.check(statements, changed, False)

    def test_other_kinds_in_the_place_of_a_book(self):
        for thing in other_kinds() + [GOOD[0], "plain", ["plain", 0], {0: ("plain", 0)}, (("plain", 0),)]:
            for statements, book in GOOD + [((), None)]:
                self.check(statements, thing, False)

    def test_other_kinds_anywhere(self):
        things = other_kinds() + [deep(lambda inner: (inner,), (), 5000), deep(lambda inner: [inner], [], 5000),
                                  deep(NUM_WRAPS[1], X, 5000), deep(negated, P, 5000)]
        for thing in things:
            for statements, book in GOOD:
                for changed in changed_somewhere(book, lambda part: (thing,)):
                    self.assertIsInstance(lets_by(names(), statements, changed), bool)

    def test_words_of_others(self):
        for statements, book in GOOD:
            for word in ("plain", "clash", "case", "cut", "end", "told"):
                self.check(statements, (word,), False)
                self.check(statements, (word,) + book, False)

    def test_told_statements_that_are_none(self):
        bad = [X, C, ("below", X), ("below", C, D), ("same", A, A), list(P), ["and", ()], ("and", []), ("not", X),
               ("not",), ("below", X, ("unknown", "zz")), ("below", X, ("number", (2, 2))), ("or", (P, None)),
               ("implies", P, Q),
               deep(negated, P, 12), deep(negated, P, 5000), ("below", deep(NUM_WRAPS[1], X, 12), ONE),
               ("below", deep(NUM_WRAPS[1], X, 5000), ONE)] + other_kinds()
        for statement in bad:
            for statements in [(statement,), (NEVER, statement), (statement, NEVER)]:
                for book in [("plain", 0), ("plain", 1), None, ("clash", ())]:
                    with self.assertRaises(BadStatement) as caught:
                        lets_by(names(), statements, book)
                    self.assertIsInstance(caught.exception, PartError)
        self.check((deep(negated, P, 11), NEVER), ("plain", 1), True)

    def test_the_same_each_time(self):
        own = names()
        for statements, book in GOOD:
            for changed in list(changed_somewhere(book, as_list))[:3] + [book]:
                self.assertEqual([lets_by(own, statements, changed) for turn in range(3)],
                                 [changed is book] * 3)

    def test_a_clash_of_a_book_is_one_for_its_path(self):
        self.assertIs(is_clash(names(), ((P, True), (P, False)), BOTH_SIGNS[1]), True)


if __name__ == "__main__":
    unittest.main()
