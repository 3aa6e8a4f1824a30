"""Searches for a world of told statements, which leave a book where there is none.

Literals are put on a path, one at a time: those that the told statements or a kept clash ask for,
else one that is tried. Where the path has come to a clash, it is gone back, and the books of both
sides become one; a literal that a book does not need is left out of it.
"""

from partproof.circuits import Circuit, node_of, opposite
from partproof.grounds import Ground
from partproof.states import State
from partproof.together import outcome

# Behind so many clashes, those of late weigh double.
CLASHES_TO_FADE = 40


class Search:
    """A path, and what is known by it."""

    def __init__(self, names, told):
        self.ground = Ground(names)
        self.atoms = []
        self.atom_numbers = {}
        self.circuit = Circuit()
        # For each node of the circuit the book that it makes where it is false.
        self.leaves = []
        # For each literal on the path its branch, and why the other side is closed: see closed_by.
        self.reasons = []
        # The states behind which a literal was tried, with how many literals stood.
        self.saved = []
        self.state = State(self.ground)
        self.many_heard = 0
        self.many_seen = 0
        self.weights = {}
        self.gain = 1
        self.many_clashes = 0
        for number, statement in enumerate(told):
            self.lay_told(number, statement)
        self.many_laid = len(self.leaves)

    def lay_told(self, number, statement):
        """Lays the nodes of a told statement."""
        node = node_of(statement, True, lambda atom: self.literal_of(atom, True))
        parts = node[1] if isinstance(node, tuple) and node[0] == "and" else (node,)
        for part in parts:
            self.circuit.lay_node(part)
            self.leaves.append(("plain", number))

    def literal_of(self, atom, sign):
        """The literal of an atom and a sign, as a number."""
        key = self.ground.key_of(atom)
        if key not in self.atom_numbers:
            self.atom_numbers[key] = len(self.atoms)
            self.atoms.append(atom)
        return 2 * self.atom_numbers[key] + (0 if sign else 1)

    def answer(self):
        """A world, or a book."""
        closed = self.first_closed()
        while True:
            if closed is None:
                closed = self.advanced()
            if closed is None:
                told = self.tried()
                if told is not None:
                    return told
            else:
                book = self.gone_back(closed)
                if book is not None:
                    return book
                closed = None

    def first_closed(self):
        """What closes the path without any literals, or None; puts what is asked for from the start on it."""
        for number in range(self.many_laid):
            closed = self.heed(number)
            if closed is not None:
                return closed
        return None

    def heed(self, number):
        """Puts what a node asks for on the path; tells what closes it, or None."""
        asked = self.circuit.asked(self.circuit.nodes[number])
        if asked is None:
            return self.closed_by(number, len(self.reasons), None)
        for literal in asked:
            # Where it is asked for twice, it stands by now; where with both signs, the node is false by now.
            if literal in self.circuit.places:
                continue
            if self.circuit.is_settled(literal):
                return self.closed_by(number, len(self.reasons), None)
            self.go_case(literal, number)
        return None

    def closed_by(self, number, limit, assumed):
        """A node's book, and the literals that it needs, of the first so many that stand and one assumed."""
        return (self.leaves[number], self.circuit.blame(self.circuit.nodes[number], limit, assumed))

    def go_case(self, literal, why):
        """Puts a literal on the path as one side of a case."""
        self.go(literal, opposite(literal), (("case", self.atoms[literal // 2]), literal & 1 == 0), why)

    def go(self, literal, mate, side, why):
        """Puts a literal on the path.

        Its mate is the literal of the other side; the side tells the head of the book of both, and whether this
        one comes first in it; why tells what closes the other side: a node's number, a tuple of a book and the
        literals that it needs, or None where it is still to be tried.
        """
        self.circuit.stand(literal)
        self.reasons.append((mate, side, why))

    def advanced(self):
        """Goes on by all that is asked for; tells what closes the path, or None."""
        standing = self.circuit.standing
        while self.many_seen < len(standing):
            self.many_seen += 1
            for number in self.circuit.uses.get(standing[self.many_seen - 1] // 2, []):
                closed = self.heed(number)
                if closed is not None:
                    return closed
        for literal in standing[self.many_heard:]:
            self.state.tell(self.atoms[literal // 2], literal & 1 == 0)
        self.many_heard = len(standing)
        steps = self.state.close()
        return None if steps is None else self.kept(steps)

    def kept(self, steps):
        """Keeps a clash, so that it asks for literals, too; tells its book and the literals that it needs."""
        used = {self.literal_of(step[1], step[2]): True for step in steps if step[0] == "told"}
        self.circuit.lay_node(("or", tuple([opposite(literal) for literal in used])))
        self.leaves.append(("clash", steps))
        return (self.leaves[-1], used)

    def gone_back(self, closed):
        """Goes back to a literal that was tried and tries its mate; tells the whole book where there is none."""
        book, used = closed
        self.weigh(used)
        while self.reasons:
            place = len(self.reasons) - 1
            literal = self.circuit.standing[place]
            mate, side, why = self.reasons.pop()
            self.circuit.fall_to(place)
            if why is None:
                self.state = self.saved.pop()
                self.many_heard = self.many_seen = place
            if literal in used:
                if why is None:
                    self.go(mate, literal, (side[0], not side[1]), (book, used))
                    return None
                other = self.closed_by(why, place, mate) if isinstance(why, int) else why
                book = joined(side, book, other[0])
                used = {key: True for key in used if key != literal}
                used.update({key: True for key in other[1] if key != mate})
        return book

    def weigh(self, used):
        """Gives weight to the atoms of a clash, more to later ones."""
        self.many_clashes += 1
        if self.many_clashes % CLASHES_TO_FADE == 0:
            self.gain *= 2
        for literal in used:
            self.weights[literal // 2] = self.weights.get(literal // 2, 0) + self.gain

    def tried(self):
        """Tries one more literal; tells the world where there is none to try."""
        literal = self.picked()
        told = ("literal", literal) if literal is not None else outcome(self.state)
        if told[0] == "world":
            return told[1]
        self.saved.append(self.state.copied())
        if told[0] == "cut":
            self.go_cut(told[1], told[2])
        else:
            self.go_case(self.literal_of(told[1], False) if told[0] == "case" else literal, None)
        return None

    def go_cut(self, name, number):
        """Puts the lower side of a cut on the path."""
        unknown = ("unknown", name)
        low = self.literal_of(("atmost", unknown, ("number", (number, 1))), True)
        high = self.literal_of(("atmost", ("number", (number + 1, 1)), unknown), True)
        self.go(low, high, (("cut", name, number), True), None)

    def picked(self):
        """A literal that would help a told statement that is not true yet, or None; the narrowest one first."""
        best = None
        for node in self.circuit.nodes[:self.many_laid]:
            if self.circuit.truth(node) is None:
                literals = self.circuit.left_in(node)
                weight, literal = max([(self.weights.get(one // 2, 0), -one) for one in literals])
                rank = (len(literals), -weight, -literal)
                if best is None or rank < best:
                    best = rank
        return None if best is None else best[2]


def joined(side, book, other):
    """The book of two sides; the side of the first one is told."""
    head, is_first = side
    return head + ((book, other) if is_first else (other, book))
