"""Circuits: wants over literals that are numbers."""

import random
import unittest

from partproof.books import is_false
from partproof.circuits import Circuit, opposite, shape_of
from samples import X, number

ATOMS = [("below", X, number(at)) for at in range(6)]


def literal_of(atom):
    return 2 * ATOMS.index(atom)


def drawn(draw, deep):
    word = draw.choice(["atom", "not", "and", "or"]) if deep > 1 else "atom"
    if word == "atom":
        return draw.choice(ATOMS)
    if word == "not":
        return ("not", drawn(draw, deep - 1))
    return (word, tuple([drawn(draw, deep - 1) for turn in range(draw.randint(0, 3))]))


class TestShapes(unittest.TestCase):
    def test_shapes(self):
        one, other = ATOMS[:2]
        self.assertEqual(shape_of(one, True, literal_of), 0)
        self.assertEqual(shape_of(one, False, literal_of), 1)
        self.assertEqual(shape_of(("not", ("and", (one, ("not", other)))), True, literal_of), ("or", (1, 2)))
        self.assertEqual(shape_of(("and", (one, ("and", (other, other)))), True, literal_of), ("and", (0, 2, 2)))
        self.assertEqual(shape_of(("or", (("and", (one,)),)), False, literal_of), 1)
        self.assertEqual(shape_of(("and", ()), False, literal_of), ("or", ()))


class TestTold(unittest.TestCase):
    def check(self, circuit, statement, path):
        """What a circuit of one want tells, by a path of literals of unlike atoms."""
        node = circuit.wants[0]
        truth = circuit.truths[node]
        self.assertEqual(truth is False, is_false(statement, tuple(path)))
        self.assertEqual(truth is True, is_false(("not", statement), tuple(path)))
        blamed = circuit.blame(0, len(path), None)
        self.assertEqual(blamed is not None, truth is False)
        asked = circuit.asked(0)
        self.assertEqual(asked is None, truth is False)
        if truth is False:
            self.assertTrue(all([literal in circuit.places for literal in blamed]))
            self.assertTrue(is_false(statement, tuple([(ATOMS[one // 2], one % 2 == 0) for one in blamed])))
        if truth is True:
            self.assertEqual(asked, [])
        for literal in asked or []:
            circuit.stand(opposite(literal))
            self.assertIs(circuit.truths[node], False)
            self.assertIn(opposite(literal), circuit.blame(0, len(path), opposite(literal)))
            circuit.fall_to(len(path))
        if truth is None:
            self.assertTrue(circuit.left_in(node))
            for literal in circuit.left_in(node):
                self.assertFalse(circuit.is_settled(literal))

    def test_truths_are_those_of_the_statements(self):
        draw = random.Random(1)
        for turn in range(300):
            statement = drawn(draw, 5)
            circuit = Circuit()
            self.assertEqual(circuit.lay_shape(shape_of(statement, True, literal_of)), 0)
            path = []
            for step in range(12):
                self.check(circuit, statement, path)
                atoms = [atom for atom in ATOMS if atom not in [told for told, sign in path]]
                if not atoms or draw.random() < 0.3:
                    path = path[:draw.randint(0, len(path))]
                    circuit.fall_to(len(path))
                else:
                    path.append((draw.choice(atoms), draw.random() < 0.5))
                    circuit.stand(literal_of(path[-1][0]) + (0 if path[-1][1] else 1))

    def test_limits_of_blame(self):
        circuit = Circuit()
        circuit.lay_shape(("or", (0, 2)))
        circuit.lay_shape(("and", (("or", (0, 2)), 2)))
        circuit.stand(1)
        circuit.stand(3)
        self.assertEqual(circuit.blame(0, 2, None), {1: True, 3: True})
        self.assertIsNone(circuit.blame(0, 1, None))
        self.assertEqual(circuit.blame(0, 1, 3), {1: True, 3: True})
        self.assertEqual(circuit.blame(1, 2, None), {3: True})

    def test_wants_are_woken_by_their_atoms(self):
        circuit = Circuit()
        self.assertEqual(circuit.lay_shape(("or", (0, ("and", (3, 0)), 8))), 0)
        self.assertEqual(circuit.lay_shape(2), 1)
        circuit.stand(3)
        self.assertEqual(circuit.woken(3), [0, 1])
        circuit.stand(9)
        self.assertEqual(circuit.woken(9), [0])
        circuit.stand(4)
        self.assertEqual(circuit.woken(4), [])


class TestStanding(unittest.TestCase):
    def test_standing_and_falling(self):
        circuit = Circuit()
        circuit.stand(4)
        circuit.stand(7)
        circuit.stand(5)
        self.assertEqual(circuit.standing, [4, 7, 5])
        self.assertEqual(circuit.places, {4: 0, 7: 1})
        circuit.fall_to(2)
        self.assertEqual(circuit.places, {4: 0, 7: 1})
        circuit.fall_to(0)
        self.assertEqual((circuit.places, circuit.standing), ({}, []))
        self.assertFalse(circuit.is_settled(7))

    def test_watched_ors_are_woken_where_they_ask(self):
        draw = random.Random(2)
        for turn in range(60):
            circuit = Circuit()
            ors = []
            for many in range(300):
                step = draw.random()
                if step < 0.15:
                    ors.append(circuit.lay_or(sorted({2 * draw.randrange(8) + draw.randrange(2) for one in range(4)})))
                elif step < 0.35:
                    circuit.fall_to(draw.randint(0, len(circuit.standing)))
                else:
                    literal = draw.randrange(16)
                    if circuit.is_settled(literal):
                        continue
                    before = {at: circuit.asked(at) for at in ors}
                    circuit.stand(literal)
                    woken = circuit.woken(literal)
                    for at in ors:
                        asked = circuit.asked(at)
                        # What is asked for and stands already needs no waking.
                        if before[at] == [] and (asked is None or asked and asked[0] not in circuit.places):
                            self.assertIn(at, woken)

    def test_what_ors_ask(self):
        circuit = Circuit()
        self.assertEqual(circuit.lay_or([0, 3]), 0)
        self.assertEqual(circuit.asked(0), [])
        circuit.stand(2)
        self.assertEqual(circuit.asked(0), [0])
        circuit.stand(1)
        self.assertIsNone(circuit.asked(0))
        self.assertEqual(circuit.blame(0, 2, None), {1: True, 2: True})


if __name__ == "__main__":
    unittest.main()
