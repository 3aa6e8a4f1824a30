"""Houses of told statements."""

import copy
import random
import unittest

from answering import check_answer, fields_of, plain_of, spoil
from drawing import Draw
from partproof.cases import answer
from partproof.errors import BadStatement, NotTold, PartError
from partproof.houses import House
from partproof.worlds import World
from samples import A, C, D, K, ONE, X, Y, call, deep, names, other_kinds, put, read, unknown

LESS, MORE = ("below", X, Y), ("below", Y, X)
UNLIKE = ("not", ("same", call("f", X), call("f", Y)))
OPEN = ("not", ("same", read(put(A, X, ONE), Y), ONE))


class TestHouse(unittest.TestCase):
    def check(self, house, told):
        """A house in which just these statements stand."""
        self.assertEqual(house.told(), told)
        found = house.answer()
        check_answer(self, names(), tuple(told), found)
        self.assertEqual(plain_of(found), plain_of(answer(names(), tuple(told))))
        self.assertEqual(plain_of(house.answer()), plain_of(found))

    def test_nothing_at_first(self):
        self.check(House(names()), [])

    def test_told_and_taken_back(self):
        house, told = House(names()), []
        for statement in (LESS, UNLIKE, OPEN, MORE, LESS):
            self.assertIsNone(house.tell(statement))
            told.append(statement)
            self.check(house, told)
        for many in (0, 1, 2, 0, 2, 0):
            self.assertIsNone(house.back(many))
            told = told[:len(told) - many]
            self.check(house, told)
        house.tell(MORE)
        self.check(house, [MORE])

    def test_answers(self):
        house = House(names())
        house.tell(LESS)
        self.assertIsInstance(house.answer(), World)
        house.tell(MORE)
        self.assertIsInstance(house.answer(), tuple)
        house.tell(OPEN)
        self.assertIsInstance(house.answer(), tuple)
        house.back(2)
        self.assertIsInstance(house.answer(), World)

    def test_without_asking_between(self):
        house = House(names())
        for statement in (LESS, MORE, UNLIKE):
            house.tell(statement)
        house.back(2)
        house.tell(OPEN)
        self.check(house, [LESS, OPEN])

    def test_too_many_taken_back(self):
        house = House(names())
        for told in ([], [LESS], [LESS, MORE]):
            for many in (len(told) + 1, len(told) + 2, 10 ** 59, -1, -2, -len(told) - 1, -10 ** 59):
                with self.assertRaises(NotTold) as caught:
                    house.back(many)
                self.assertIs(type(caught.exception), NotTold)
                self.assertIsInstance(caught.exception, PartError)
                self.check(house, told)
            house.tell((LESS, MORE, LESS)[len(told)])

    def test_no_statements(self):
        house = House(names())
        house.tell(LESS)
        for thing in other_kinds() + [X, ("same", X, C), ("below", C, D), ("and", [LESS]), ("not", X), ("atmost", A, A),
                                      ("same", unknown("u"), X), deep(lambda part: ("not", part), LESS, 12),
                                      deep(lambda part: ("not", part), LESS, 3000)]:
            with self.assertRaises(BadStatement) as caught:
                house.tell(thing)
            self.assertIs(type(caught.exception), BadStatement)
            self.assertEqual(house.told(), [LESS])
        self.check(house, [LESS])

    def test_two_beside_one_another(self):
        own_names = names()
        one, other = House(own_names), House(own_names)
        one.tell(LESS)
        other.tell(MORE)
        one.tell(UNLIKE)
        self.check(one, [LESS, UNLIKE])
        self.check(other, [MORE])
        one.back(2)
        self.check(one, [])
        self.check(other, [MORE])

    def test_drawn_tellings_and_takings_back(self):
        for seed in range(20):
            draw, turns = Draw(seed), random.Random(seed)
            house, told = House(draw.names), []
            for statement in draw.told(8, 12):
                house.tell(statement)
                told.append(statement)
                if turns.random() < 0.4:
                    many = turns.randint(0, len(told))
                    house.back(many)
                    told = told[:len(told) - many]
                self.assertEqual(house.told(), told)
                check_answer(self, draw.names, tuple(told), house.answer())


class TestOwn(unittest.TestCase):
    def test_the_list_of_told_is_the_askers_own(self):
        house = House(names())
        house.tell(LESS)
        told = house.told()
        told.append(MORE)
        self.assertEqual(house.told(), [LESS])
        house.told().clear()
        self.assertEqual(house.told(), [LESS])
        self.assertIsInstance(house.answer(), World)

    def test_a_world_is_new_each_time(self):
        house = House(names())
        for statement in (UNLIKE, ("not", ("same", read(A, X), K))):
            house.tell(statement)
        one, other = house.answer(), house.answer()
        self.assertIsNot(one, other)
        kept = copy.deepcopy(fields_of(other))
        spoil(one)
        self.assertEqual(fields_of(other), kept)
        self.assertEqual(fields_of(house.answer()), kept)

    def test_names_and_statements_stay(self):
        own_names, statement = names(), copy.deepcopy(UNLIKE)
        before = copy.deepcopy(vars(own_names))
        house = House(own_names)
        house.tell(statement)
        house.answer()
        house.back(1)
        self.assertEqual(vars(own_names), before)
        self.assertEqual(statement, UNLIKE)


if __name__ == "__main__":
    unittest.main()
