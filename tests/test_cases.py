"""Answers, and kept reasons."""

import copy
import random
import unittest

from answering import check_answer, fields_of, plain_of, spoil
from drawing import Draw, small_worlds
from partproof.books import lets_by
from partproof.cases import Reasons, answer
from partproof.errors import (BadNames, BadStatement, BadTerm, NoNumber, NoRow, NotTold, NoText, PartError)
from partproof.names import Names
from partproof.steps import is_clash
from partproof.together import settle
from partproof.worlds import World, holds
from samples import (A, C, D, HALF, K, M, NUM_WRAPS, ONE, X, Y, ZERO, call, deep, names, number, other_kinds, plus, put,
                     read, unknown, weigh)


def land(*statements):
    return ("and", statements)


def lor(*statements):
    return ("or", statements)


def lnot(statement):
    return ("not", statement)


def same(one, other):
    return ("same", one, other)


def below(one, other):
    return ("below", one, other)


def atmost(one, other):
    return ("atmost", one, other)


def f(term):
    return call("f", term)


def pigeons(many):
    """So many things, unlike one another, each of which is one of one fewer."""
    birds, holes = ["p" + letter for letter in "abcdefg"[:many]], ["h" + letter for letter in "abcdefg"[:many - 1]]
    birds_told = [lor(*[same(unknown(bird), unknown(hole)) for hole in holes]) for bird in birds]
    unlike = [lnot(same(unknown(one), unknown(other))) for one in birds for other in birds if one < other]
    return Names([], [], birds + holes, [], []), tuple(birds_told + unlike)


def turns(many, room):
    """So many jobs that take turns within a time."""
    names_of = ["j" + letter for letter in "abcdefg"[:many]]
    lengths = [number(at + 1) for at in range(many)]
    told = []
    for at, name in enumerate(names_of):
        told.append(land(atmost(ZERO, unknown(name)), atmost(plus(unknown(name), lengths[at]), number(room))))
        for other in range(at):
            told.append(lor(atmost(plus(unknown(name), lengths[at]), unknown(names_of[other])),
                            atmost(plus(unknown(names_of[other]), lengths[other]), unknown(name))))
    return Names(names_of, [], [], [], []), tuple(told)


def ring(many):
    """A ring of unknowns, each at most the next one."""
    names_of = ["x" + one + other for one in "abcdefghij" for other in "abcdefghij"][:many]
    unknowns = [unknown(name) for name in names_of]
    told = tuple([atmost(one, other) for one, other in zip(unknowns, unknowns[1:] + unknowns[:1])])
    return Names(names_of, [], [], [("f", ("num",), "num")], []), told, unknowns


def swapped(many):
    """Puts in two orders, at places that are unlike, read at one place."""
    places, values = [unknown("i" + letter) for letter in "abcdef"], [unknown("v" + letter) for letter in "abcdef"]
    one = other = unknown("a")
    for at in range(many):
        one = put(one, places[at], values[at])
        other = put(other, places[many - 1 - at], values[many - 1 - at])
    unlike = [lnot(same(places[at], places[before])) for at in range(many) for before in range(at)]
    own_names = Names([name + letter for name in "iv" for letter in "abcdef"] + ["k"], [], [], [], ["a"])
    return own_names, tuple([lnot(same(read(one, unknown("k")), read(other, unknown("k"))))] + unlike)


BOOKS = {
    "false by itself": (lor(),),
    "not true": (lnot(land()),),
    "one told and its contrary": (below(X, Y), lnot(below(X, Y))),
    "not either": (lor(below(X, Y), same(X, Y)), lnot(lor(below(X, Y), same(X, Y)))),
    "within one another": (lnot(land(lnot(land(same(C, D), below(X, Y))), land())), lor(atmost(Y, X), lnot(same(D, C)))),
    "a number below itself": (below(X, X),),
    "a chain": (atmost(X, Y), below(Y, K), atmost(K, M), below(M, X)),
    "both cases": (lor(below(X, Y), below(Y, X)), atmost(X, Y), atmost(Y, X)),
    "calls of equal arguments": (same(X, Y), lnot(same(f(X), f(Y)))),
    "calls by cases": (lor(same(X, Y), same(X, plus(Y, ZERO))), lnot(same(f(f(X)), f(f(Y))))),
    "a read at the put's place": (lnot(same(read(put(A, X, HALF), plus(X, ZERO)), HALF)),),
    "a read at another place": (below(X, Y), lnot(same(read(put(A, X, HALF), Y), read(A, Y)))),
    "a read at an open place": (lnot(lor(same(read(put(A, X, HALF), Y), HALF), same(read(put(A, X, HALF), Y), read(A, Y)))),),
    "two puts, open": (below(ONE, read(put(put(A, X, ONE), Y, HALF), ZERO)), atmost(read(A, ZERO), ZERO)),
    "a whole of few values": (lnot(same(M, number(-3))), lnot(same(M, number(-2))), lnot(same(M, number(-1))),
                              lor(below(number(3), M), atmost(M, number(-1)))),
    "two wholes": (same(weigh(2, 1, K), plus(weigh(2, 1, M), ONE)),),
    "two wholes and a number": (same(plus(K, M), weigh(2, 1, X)), same(weigh(4, 1, X), number(3))),
    "a whole and calls": tuple([lnot(same(f(K), f(number(told)))) for told in range(6)]),
    "a whole as a place": (lnot(same(read(A, K), ZERO)),) + tuple([same(read(A, number(told)), ZERO) for told in range(6)]),
    "twice": (below(X, Y), below(X, Y), below(Y, X), below(Y, X)),
}

WORLDS = {
    "nothing": (),
    "true by itself": (land(), lnot(lor()), same(X, X), atmost(X, X)),
    "either": (lor(below(X, Y), below(Y, X)), lnot(same(f(X), f(Y)))),
    "a chain": (atmost(X, Y), below(Y, K), atmost(K, M), atmost(M, plus(X, ONE))),
    "unlike calls": (lnot(same(f(X), f(Y))), atmost(X, Y)),
    "a read at the put's place": (same(read(put(A, X, HALF), Y), HALF), lnot(same(read(A, Y), HALF))),
    "a read at an open place": (lnot(same(read(put(A, X, HALF), Y), HALF)),),
    "wholes": (same(plus(weigh(3, 1, K), M), number(13)), lnot(same(M, ONE))),
    "a whole of one value left": tuple([lnot(same(f(K), f(number(told)))) for told in range(5)]),
    "twice": (below(X, Y), below(X, Y), lnot(same(C, D)), lnot(same(C, D))),
    "things": (lnot(same(C, D)), lor(same(call("p", C), D), same(call("p", D), C)), lnot(same(call("p", C), D))),
}


class TestAnswer(unittest.TestCase):
    def sort_of(self, own_names, told):
        return check_answer(self, own_names, told, answer(own_names, told))

    def test_books(self):
        for word, told in BOOKS.items():
            with self.subTest(word):
                self.assertEqual(self.sort_of(names(), told), "book")

    def test_worlds(self):
        for word, told in WORLDS.items():
            with self.subTest(word):
                self.assertEqual(self.sort_of(names(), told), "world")

    def test_in_another_order_and_twice(self):
        for sort, rows in (("book", BOOKS), ("world", WORLDS)):
            for word, told in rows.items():
                with self.subTest(word):
                    self.assertEqual(self.sort_of(names(), told[::-1]), sort)
                    self.assertEqual(self.sort_of(names(), told + told), sort)
                    self.assertEqual(self.sort_of(names(), (land(*told),)), sort)
                    self.assertEqual(self.sort_of(names(), (lnot(lor(*[lnot(part) for part in told])),)), sort)

    def test_wholes_with_few_values_and_one_with_many(self):
        own_names = Names([], [("k", 0, 3), ("l", -2, 2), ("m", 0, 59)], [], [("f", ("num",), "num")], [])
        few, few_too, many = [unknown(name) for name in "klm"]
        total = plus(weigh(6, 1, few), weigh(10, 1, few_too), weigh(15, 1, many))
        self.assertEqual(self.sort_of(own_names, (same(total, number(29)), below(few_too, number(-1)))), "book")
        self.assertEqual(self.sort_of(own_names, (same(total, number(31)), below(ZERO, few_too))), "world")
        self.assertEqual(self.sort_of(own_names, (same(weigh(7, 1, many), plus(few, few_too, number(400))),)), "world")
        unlike = tuple([lnot(same(f(many), f(number(told)))) for told in range(60)])
        self.assertEqual(self.sort_of(own_names, unlike), "book")
        self.assertEqual(self.sort_of(own_names, unlike[:37] + unlike[38:]), "world")

    def test_pigeons(self):
        for many in (2, 3, 4, 5):
            own_names, told = pigeons(many)
            self.assertEqual(self.sort_of(own_names, told), "book")
            self.assertEqual(self.sort_of(own_names, told[1:]), "world")

    def test_turns(self):
        for many in (2, 3, 4, 5):
            length = many * (many + 1) // 2
            self.assertEqual(self.sort_of(*turns(many, length)), "world")
            self.assertEqual(self.sort_of(*turns(many, length - 1)), "book")

    def test_a_hundred_told(self):
        own_names, told, unknowns = ring(99)
        self.assertEqual(self.sort_of(own_names, told + (below(unknowns[4], unknowns[40]),)), "book")
        self.assertEqual(self.sort_of(own_names, told + (lnot(same(f(unknowns[4]), f(unknowns[40]))),)), "book")
        self.assertEqual(self.sort_of(own_names, told + (same(f(unknowns[4]), unknowns[40]),)), "world")
        self.assertEqual(self.sort_of(own_names, told[:50] + told[51:] + (below(unknowns[4], unknowns[40]),)), "world")

    def test_two_hundred_atoms(self):
        own_names, told, unknowns = ring(99)
        either = tuple([lor(below(one, other), below(other, one)) for one, other in zip(unknowns, unknowns[1:])])
        self.assertEqual(self.sort_of(own_names, either), "world")
        self.assertEqual(self.sort_of(own_names, either + (same(unknowns[6], unknowns[7]),)), "book")

    def test_puts_in_another_order(self):
        for many in (2, 3, 4):
            own_names, told = swapped(many)
            self.assertEqual(self.sort_of(own_names, told), "book")
            self.assertEqual(self.sort_of(own_names, told[:1]), "world")

    def test_three_at_a_time(self):
        for seed, many in ((1, 60), (2, 80), (3, 110), (4, 130)):
            draw = random.Random(seed)
            own_names = Names(["x" + letter for letter in "abcdefghijklmnopqrst"], [], [], [], [])
            atoms = [below(unknown(name), ZERO) for name in own_names.all_numbers()]
            either = [lor(*[atom if draw.random() < 0.5 else lnot(atom) for atom in draw.sample(atoms, 3)])
                      for turn in range(many)]
            told = (land(*either[:50]), land(*either[50:]))
            self.assertEqual(self.sort_of(own_names, told), "world" if many < 100 else "book")

    def test_deep_statements(self):
        statement = same(f(X), f(Y))
        for turn in range(8):
            statement = (lnot(statement), land(statement, statement), lor(statement))[turn % 3]
        for told in ((statement,), (lnot(statement),), (statement, same(X, Y)), (lnot(statement), same(X, Y))):
            self.sort_of(names(), told)

    def test_large_numbers(self):
        huge = number(10 ** 59 + 1, 10 ** 59)
        self.assertEqual(self.sort_of(names(), (same(weigh(10 ** 59, 1, X), huge), below(X, ZERO))), "book")
        self.assertEqual(self.sort_of(names(), (same(weigh(10 ** 59, 1, X), huge), below(ZERO, X))), "world")


class TestDrawn(unittest.TestCase):
    def test_drawn_statements(self):
        sorts = {}
        for seed in range(400):
            draw = Draw(seed, deepest=2 + seed % 3, has_wholes=seed % 2 == 0, has_arrays=seed % 3 != 0)
            told = draw.told(3 + seed % 12, 1 + seed % 9)
            with self.subTest(seed):
                sort = check_answer(self, draw.names, told, answer(draw.names, told))
                sorts[sort] = sorts.get(sort, 0) + 1
        self.assertGreater(min(sorts["book"], sorts["world"]), 50)

    def test_never_a_book_where_a_small_world_makes_all_true(self):
        for seed in range(80):
            draw = Draw(seed, has_wholes=seed % 2 == 0)
            for world in small_worlds(draw.has_wholes, 4, seed):
                told = tuple([part if holds(world, part) else lnot(part) for part in draw.told(8, 6)])
                with self.subTest(seed):
                    self.assertEqual(check_answer(self, draw.names, told, answer(draw.names, told)), "world")

    def test_the_same_in_other_words(self):
        for seed in range(150):
            draw = Draw(seed, has_wholes=seed % 2 == 0)
            told = draw.told(6, 5)
            sort = check_answer(self, draw.names, told, answer(draw.names, told))
            for change in (turned_about, on_both_sides, renamed):
                other = tuple([changed(part, change) for part in told])
                with self.subTest(seed, change=change.__name__):
                    self.assertEqual(check_answer(self, draw.names, other, answer(draw.names, other)), sort)


def changed(statement, change):
    """A statement with each of its atoms changed."""
    if statement[0] == "not":
        return lnot(changed(statement[1], change))
    if statement[0] in ("and", "or"):
        return (statement[0], tuple([changed(part, change) for part in statement[1]]))
    return change(statement)


def turned_about(atom):
    word, one, other = atom
    return (word, other, one) if word == "same" else lnot(("below" if word == "atmost" else "atmost", other, one))


def on_both_sides(atom):
    word, one, other = atom
    if not is_num(one):
        return atom
    return (word, plus(weigh(3, 2, one), X, other), plus(weigh(1, 2, one), X, weigh(2, 1, other)))


def is_num(term):
    return not (term[0] == "unknown" and term[1] in "cde" or term[0] == "call" and term[1] in "pq")


def renamed(thing):
    """x and y, c and d in one another's places."""
    places = {"x": "y", "y": "x", "c": "d", "d": "c"}
    if isinstance(thing, tuple) and thing and thing[0] == "unknown":
        return unknown(places.get(thing[1], thing[1]))
    return tuple([renamed(part) for part in thing]) if isinstance(thing, tuple) else thing


class TestRefused(unittest.TestCase):
    def refused(self, told):
        with self.assertRaises(BadStatement) as caught:
            answer(names(), told)
        for error in (BadNames, BadTerm, NotTold, NoText, NoRow, NoNumber):
            self.assertNotIsInstance(caught.exception, error)
        self.assertIsInstance(caught.exception, PartError)

    def test_no_statements(self):
        for thing in other_kinds() + [X, C, A, ("same", X), ("same", X, C), ("below", C, D), ("atmost", A, A),
                                      ("and", below(X, Y)), ("and", [below(X, Y)]), ("or", (X,)), ("not", X),
                                      ("same", unknown("u"), X), ("same", call("f", X, X), X), ("same", f(C), X)]:
            self.refused((thing,))
            self.refused((below(X, Y), thing))
            self.refused((below(X, X), thing))

    def test_too_deep(self):
        for wrap in NUM_WRAPS:
            # An atom is one deeper than the terms in it.
            answer(names(), (same(deep(wrap, X, 11), Y),))
            self.refused((same(deep(wrap, X, 12), Y),))
            self.refused((same(deep(wrap, X, 3000), Y),))
        self.refused((deep(lnot, below(X, Y), 12),))
        self.refused((deep(lnot, below(X, Y), 5000),))


class TestOwn(unittest.TestCase):
    def test_what_is_handed_in_stays(self):
        for told in list(BOOKS.values()) + list(WORLDS.values()):
            kept, own_names = copy.deepcopy(told), names()
            before = copy.deepcopy(vars(own_names))
            answer(own_names, told)
            self.assertEqual((told, vars(own_names)), (kept, before))

    def test_the_same_question_has_the_same_answer(self):
        for told in list(BOOKS.values()) + list(WORLDS.values()):
            self.assertEqual(plain_of(answer(names(), told)), plain_of(answer(names(), told)))

    def test_a_world_is_the_askers_own(self):
        for told in WORLDS.values():
            own_names = names()
            one, other = answer(own_names, told), answer(own_names, told)
            self.assertIs(type(one), World)
            self.assertIsNot(one, other)
            kept = copy.deepcopy(fields_of(other))
            spoil(one)
            self.assertEqual(fields_of(other), kept)
            self.assertEqual(fields_of(answer(own_names, told)), kept)


def clash_of(literals):
    word, steps = settle(names(), literals)
    return steps if word == "clash" else None


class TestReasons(unittest.TestCase):
    PATHS = [((below(X, Y), True), (below(Y, X), True)),
             ((same(C, D), True), (same(call("p", C), call("p", D)), False)),
             ((below(X, X), True),),
             ((atmost(X, Y), True), (atmost(Y, X), True), (same(f(X), f(Y)), False))]
    BESIDE = ((same(C, D), False), (below(K, M), True), (same(X, Y), True))

    def found(self, reasons, path):
        steps = reasons.found(path)
        if steps is not None:
            self.assertTrue(is_clash(names(), path, steps))
        return steps

    def test_nothing_is_kept_at_first(self):
        for path in self.PATHS + [()]:
            self.assertIsNone(Reasons().found(path))

    def test_found_for_its_path_longer_ones_and_in_another_order(self):
        for path in self.PATHS:
            reasons = Reasons()
            steps = clash_of(path)
            self.assertIsNone(reasons.keep(steps))
            for longer in (path, path[::-1], self.BESIDE + path, path + self.BESIDE, path + path,
                           self.BESIDE[:1] + path[::-1] + self.BESIDE[1:]):
                self.assertEqual(self.found(reasons, longer), steps)
                self.assertEqual(self.found(reasons, longer), steps)

    def test_none_where_a_literal_lacks(self):
        for path in self.PATHS:
            reasons = Reasons()
            reasons.keep(clash_of(path))
            for at, (atom, sign) in enumerate(path):
                lacking = path[:at] + path[at + 1:]
                turned = lacking + ((atom, not sign),)
                for shorter in (lacking, self.BESIDE[1:2] + lacking, turned, ()):
                    self.assertIsNone(reasons.found(shorter))

    def test_only_the_literals_that_are_used_count(self):
        path = self.BESIDE[1:2] + self.PATHS[0]
        steps = clash_of(path)
        self.assertEqual({step[1:] for step in steps if step[0] == "told"}, set(self.PATHS[0]))
        reasons = Reasons()
        reasons.keep(steps)
        self.assertEqual(self.found(reasons, self.PATHS[0]), steps)

    def test_several_kept(self):
        reasons = Reasons()
        for many, path in enumerate(self.PATHS):
            for later in self.PATHS[many:]:
                self.assertIsNone(reasons.found(later))
            reasons.keep(clash_of(path))
            for earlier in self.PATHS[:many + 1]:
                self.assertIsNotNone(self.found(reasons, earlier))
                self.assertIsNotNone(self.found(reasons, earlier[::-1] + self.BESIDE))
        both = self.PATHS[0] + self.PATHS[1]
        self.assertIsNotNone(self.found(reasons, both))
        self.assertIsNone(reasons.found(self.BESIDE))

    def test_two_beside_one_another(self):
        one, other = Reasons(), Reasons()
        one.keep(clash_of(self.PATHS[0]))
        self.assertIsNone(other.found(self.PATHS[0]))
        self.assertIsNotNone(one.found(self.PATHS[0]))

    def test_clashes_in_books_are_found(self):
        own_names, told = pigeons(3)
        book = answer(own_names, told)
        self.assertTrue(lets_by(own_names, told, book))
        reasons, paths, waiting = Reasons(), [], [((), book)]
        while waiting:
            path, part = waiting.pop()
            if part[0] == "case":
                waiting += [(path + ((part[1], True),), part[2]), (path + ((part[1], False),), part[3])]
            elif part[0] == "clash":
                reasons.keep(part[1])
                paths.append(path)
        self.assertTrue(paths)
        for path in paths:
            self.assertTrue(is_clash(own_names, path, reasons.found(path)))


if __name__ == "__main__":
    unittest.main()
