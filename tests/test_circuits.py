"""Circuits: nodes over literals that are numbers."""

import random
import unittest

from partproof.books import is_false
from partproof.circuits import Circuit, literals_in, node_of, opposite
from samples import X, number

ATOMS = [("below", X, number(at)) for at in range(6)]


def literal_of(atom):
    return 2 * ATOMS.index(atom)


def drawn(draw, deep):
    word = draw.choice(["atom", "not", "and", "or"]) if deep > 1 else "atom"
    if word == "atom":
        return draw.choice(ATOMS)
    if word == "not":
        return ("not", drawn(draw, deep - 1))
    return (word, tuple([drawn(draw, deep - 1) for turn in range(draw.randint(0, 3))]))


class TestNodes(unittest.TestCase):
    def test_nodes(self):
        one, other = ATOMS[:2]
        self.assertEqual(node_of(one, True, literal_of), 0)
        self.assertEqual(node_of(one, False, literal_of), 1)
        self.assertEqual(node_of(("not", ("and", (one, ("not", other)))), True, literal_of), ("or", (1, 2)))
        self.assertEqual(node_of(("and", (one, ("and", (other, other)))), True, literal_of), ("and", (0, 2, 2)))
        self.assertEqual(node_of(("or", (("and", (one,)),)), False, literal_of), 1)
        self.assertEqual(node_of(("and", ()), False, literal_of), ("or", ()))

    def test_truths_are_those_of_the_statements(self):
        draw = random.Random(1)
        for turn in range(400):
            statement = drawn(draw, 4)
            node = node_of(statement, True, literal_of)
            path = [(atom, draw.random() < 0.5) for atom in draw.sample(ATOMS, draw.randint(0, 6))]
            circuit = Circuit()
            for atom, sign in path:
                circuit.stand(literal_of(atom) + (0 if sign else 1))
            truth = circuit.truth(node)
            self.assertEqual(truth is False, is_false(statement, tuple(path)))
            self.assertEqual(truth is True, is_false(("not", statement), tuple(path)))
            blamed = circuit.blame(node, len(path), None)
            self.assertEqual(blamed is not None, truth is False)
            if truth is False:
                self.assertTrue(all([literal in circuit.places for literal in blamed]))
                self.assertTrue(is_false(statement, tuple([(ATOMS[one // 2], one % 2 == 0) for one in blamed])))
            asked = circuit.asked(node)
            if asked is None or truth is False:
                self.assertIs(truth, False)
            for literal in asked or []:
                circuit.stand(opposite(literal))
                self.assertIs(circuit.truth(node), False)
                self.assertIn(opposite(literal), circuit.blame(node, len(path), opposite(literal)))
                circuit.fall_to(len(path))
            if truth is None:
                self.assertEqual(set(circuit.left_in(node)) - set(literals_in(node)), set())
                self.assertTrue(circuit.left_in(node))


class TestStanding(unittest.TestCase):
    def test_standing_and_falling(self):
        circuit = Circuit()
        circuit.stand(4)
        circuit.stand(7)
        circuit.stand(5)
        self.assertEqual(circuit.standing, [4, 7, 5])
        self.assertIs(circuit.truth(4), True)
        self.assertIs(circuit.truth(5), False)
        self.assertIs(circuit.truth(6), False)
        self.assertIsNone(circuit.truth(8))
        circuit.fall_to(2)
        self.assertIs(circuit.truth(4), True)
        circuit.fall_to(0)
        self.assertIsNone(circuit.truth(4))
        self.assertFalse(circuit.is_settled(7))

    def test_limits_of_blame(self):
        circuit = Circuit()
        circuit.stand(1)
        circuit.stand(3)
        node = ("or", (0, 2))
        self.assertEqual(circuit.blame(node, 2, None), {1: True, 3: True})
        self.assertIsNone(circuit.blame(node, 1, None))
        self.assertEqual(circuit.blame(node, 1, 3), {1: True, 3: True})
        self.assertEqual(circuit.blame(("and", (("or", (0, 2)), 2)), 2, None), {3: True})

    def test_watched_nodes_are_woken_where_they_ask(self):
        draw = random.Random(2)
        for turn in range(60):
            circuit = Circuit()
            ors = []
            for many in range(300):
                step = draw.random()
                if step < 0.15:
                    ors.append(circuit.lay_or(sorted({2 * draw.randrange(8) + draw.randrange(2) for one in range(4)})))
                elif step < 0.35:
                    circuit.fall_to(draw.randint(0, len(circuit.standing)))
                else:
                    literal = draw.randrange(16)
                    if circuit.is_settled(literal):
                        continue
                    before = {at: circuit.asked(circuit.nodes[at]) for at in ors}
                    circuit.stand(literal)
                    woken = circuit.woken(literal)
                    for at in ors:
                        asked = circuit.asked(circuit.nodes[at])
                        if before[at] == [] and asked != []:
                            self.assertIn(at, woken)


class TestUses(unittest.TestCase):
    def test_nodes_by_atoms(self):
        circuit = Circuit()
        self.assertEqual(circuit.lay_node(("or", (0, ("and", (3, 0)), 8))), 0)
        self.assertEqual(circuit.lay_node(2), 1)
        self.assertEqual(circuit.uses, {0: [0], 1: [0, 1], 4: [0]})
        self.assertEqual(literals_in(("or", (0, ("and", (3, 0)), 8))), [0, 3, 0, 8])


if __name__ == "__main__":
    unittest.main()
