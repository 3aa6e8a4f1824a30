"""Least clashes of told statements."""

import copy
import unittest

from answering import check_answer
from drawing import Draw
from partproof.cases import answer
from partproof.errors import BadStatement
from partproof.least import least_clash, plain_numbers
from partproof.worlds import World
from samples import A, C, D, HALF, K, M, X, Y, ZERO, call, deep, names, number, other_kinds, plus, put, read, weigh

BESIDE = (("atmost", M, K), ("not", ("same", C, D)), ("below", read(A, X), HALF), ("and", ()),
          ("or", (("same", C, D), ("atmost", M, number(2)))))
RING = (("below", X, Y), ("atmost", Y, call("f", X)), ("atmost", call("f", X), K), ("atmost", K, ZERO),
        ("atmost", ZERO, M), ("below", M, X))
CLASHES = {
    "by itself": (("below", X, X),),
    "an or of none": (("or", ()),),
    "two": (("below", X, Y), ("below", Y, X)),
    "two by calls": (("same", X, Y), ("not", ("same", call("f", X), call("f", Y)))),
    "three": (("or", (("same", X, Y), ("same", X, K))), ("below", X, Y), ("below", X, K)),
    "three by a read": (("not", ("same", X, Y)), ("same", read(put(A, X, HALF), Y), HALF), ("below", read(A, Y), HALF)),
    "wholes": (("same", weigh(2, 1, K), plus(M, X)), ("same", X, HALF)),
    "a whole by cases": (("or", (("same", K, ZERO), ("same", K, number(5)))), ("not", ("same", call("f", K), call("f", ZERO))),
                         ("not", ("same", call("f", K), call("f", number(5))))),
    "cuts and cases": (("or", (("below", K, number(4)), ("not", ("same", call("f", K), call("f", number(4)))))),
                       ("same", call("f", number(4)), call("f", number(5))), ("atmost", number(4), K)),
    "six": RING,
}


class TestLeast(unittest.TestCase):
    def least(self, own_names, told):
        """What is told, reckoned: with all of it there is no world, without any one there is."""
        found = least_clash(own_names, told)
        if found is None:
            self.assertEqual(check_answer(self, own_names, told, answer(own_names, told)), "world")
            return None
        self.assertIs(type(found), list)
        self.assertEqual(found, sorted(set(found)))
        self.assertTrue(all([type(at) is int and 0 <= at < len(told) for at in found]))
        rows = tuple([told[at] for at in found])
        self.assertEqual(check_answer(self, own_names, rows, answer(own_names, rows)), "book")
        for at in range(len(rows)):
            fewer = rows[:at] + rows[at + 1:]
            self.assertEqual(check_answer(self, own_names, fewer, answer(own_names, fewer)), "world")
        return found

    def test_none_where_there_is_a_world(self):
        for told in ((), BESIDE, RING[1:], RING[:-1], (("below", X, Y),) * 3):
            self.assertIsNone(self.least(names(), told))

    def test_clashes_by_themselves(self):
        for word, told in CLASHES.items():
            with self.subTest(word):
                self.assertEqual(self.least(names(), told), list(range(len(told))))

    def test_clashes_among_others(self):
        for word, told in CLASHES.items():
            with self.subTest(word):
                self.assertEqual(self.least(names(), BESIDE + told), list(range(5, 5 + len(told))))
                self.assertEqual(self.least(names(), told[::-1] + BESIDE), list(range(len(told))))
                mixed, places = list(BESIDE), []
                for at, statement in enumerate(told):
                    mixed.insert(2 * at, statement)
                    places.append(min(2 * at, len(mixed) - 1))
                self.assertEqual(self.least(names(), tuple(mixed)), places)

    def test_twelve_told(self):
        self.assertEqual(self.least(names(), RING[:3] + BESIDE + RING[3:] + (("atmost", X, X),)), [0, 1, 2, 8, 9, 10])
        self.assertEqual(len(self.least(names(), RING + RING)), 6)

    def test_several_clashes(self):
        told = CLASHES["two"] + CLASHES["two by calls"] + CLASHES["by itself"]
        self.assertIn(self.least(names(), told), ([0, 1], [0, 2], [1, 2], [2, 3], [4]))

    def test_the_same_told_twice(self):
        found = self.least(names(), (("below", X, Y), ("below", X, Y), ("below", Y, X), ("below", Y, X)))
        self.assertEqual(len(found), 2)

    def test_drawn(self):
        lengths = set()
        for seed in range(60):
            draw = Draw(seed, has_wholes=seed % 2 == 0)
            found = self.least(draw.names, draw.told(10, 12))
            lengths.add(0 if found is None else len(found))
        self.assertGreaterEqual(len(lengths), 3)

    def test_refused(self):
        for thing in other_kinds() + [X, ("same", X, C), ("not", X), ("and", [("below", X, Y)]),
                                      deep(lambda part: ("not", part), ("below", X, Y), 12)]:
            for told in ((thing,), (("below", X, X), thing), (thing, ("below", X, Y))):
                with self.assertRaises(BadStatement) as caught:
                    least_clash(names(), told)
                self.assertIs(type(caught.exception), BadStatement)


class TestPlain(unittest.TestCase):
    def test_numbers_of_a_book(self):
        book = ("case", "a", ("plain", 3), ("cut", "k", 0, ("clash", ()), ("cut", "k", 1, ("plain", 5), ("plain", 0))))
        self.assertEqual(sorted(plain_numbers(book)), [0, 3, 5])
        self.assertEqual(plain_numbers(("clash", ())), [])


class TestOwn(unittest.TestCase):
    def test_what_is_handed_in_stays_and_what_is_told_is_the_askers(self):
        for told in CLASHES.values():
            own_names, kept = names(), copy.deepcopy(told)
            before = copy.deepcopy(vars(own_names))
            found = least_clash(own_names, told)
            again = list(found)
            found.append(7)
            self.assertEqual(least_clash(own_names, told), again)
            self.assertEqual((told, vars(own_names)), (kept, before))
            self.assertNotIsInstance(answer(own_names, told), World)


if __name__ == "__main__":
    unittest.main()
