"""Searches for a world of told statements, which leave a book where there is none.

Literals are put on a path, one at a time: those that the told statements or a kept book ask for,
else one that is tried. Where the path has come to a clash, it is gone back, and the books of both
sides become one; a literal that a book does not need is left out of it.

What closes a path is a tuple of a book, a dict of the literals that it needs, and how large it is.
In these books atoms are known by their numbers; a kept one may be put where its atoms stand
already, so the whole book is written out in the end (trims).
"""

from partproof.circuits import Circuit, opposite, shape_of
from partproof.grounds import Ground
from partproof.states import State
from partproof.together import outcome
from partproof.trims import written_out
from partproof.worlds import holds

# Behind so many clashes, those of late weigh double.
CLASHES_TO_FADE = 40
# Books are kept for other paths only where they are small, so that what is put together of them does not grow wild,
# and need few literals, since else they are hardly asked for.
LARGEST_KEPT = 300
MOST_NEEDED = 16
# The size of a book with a cut, which is not kept for other paths.
NEVER_KEPT = 1000000000


class Search:
    """A path, and what is known by it."""

    def __init__(self, names, told):
        self.ground = Ground(names)
        self.atoms = []
        self.atom_numbers = {}
        self.circuit = Circuit()
        # For each want of the circuit the book that closes a path where it is false, and how large it is.
        self.leaves = []
        # For each literal on the path its branch, and why the other side is closed: see closed_by.
        self.reasons = []
        # The states behind which a literal was tried, with how many literals stood.
        self.saved = []
        self.state = State(self.ground)
        self.many_heard = 0
        self.many_seen = 0
        self.weights = {}
        self.gain = 1
        self.many_clashes = 0
        for number, statement in enumerate(told):
            self.lay_told(number, statement)
        self.many_laid = len(self.leaves)

    def lay_told(self, number, statement):
        """Lays the wants of a told statement."""
        shape = shape_of(statement, True, lambda atom: self.literal_of(atom, True))
        parts = shape[1] if isinstance(shape, tuple) and shape[0] == "and" else (shape,)
        for part in parts:
            self.circuit.lay_shape(part)
            self.leaves.append((("plain", number), 1))

    def literal_of(self, atom, sign):
        """The literal of an atom and a sign, as a number."""
        key = self.ground.key_of(atom)
        if key not in self.atom_numbers:
            self.atom_numbers[key] = len(self.atoms)
            self.atoms.append(atom)
        return 2 * self.atom_numbers[key] + (0 if sign else 1)

    def answer(self):
        """A world, or a book."""
        closed = self.first_closed()
        while True:
            if closed is None:
                closed = self.advanced()
            if closed is None:
                told = self.tried()
                if told is not None:
                    return told
            else:
                book = self.gone_back(closed)
                if book is not None:
                    return written_out(book, self.atoms)
                closed = None

    def first_closed(self):
        """What closes the path without any literals, or None; puts what is asked for from the start on it."""
        for number in range(self.many_laid):
            closed = self.heed(number)
            if closed is not None:
                return closed
        return None

    def heed(self, number):
        """Puts what a want asks for on the path; tells what closes it, or None."""
        asked = self.circuit.asked(number)
        if asked is None:
            return self.closed_by(number, len(self.reasons), None)
        for literal in asked:
            # Where it is asked for twice, it stands by now; where with both signs, the want is false by now.
            if literal in self.circuit.places:
                continue
            if self.circuit.is_settled(literal):
                return self.closed_by(number, len(self.reasons), None)
            self.go_case(literal, number)
        return None

    def closed_by(self, number, limit, assumed):
        """What closes a path by a want, of the first so many literals that stand and one assumed."""
        book, size = self.leaves[number]
        return (book, self.circuit.blame(number, limit, assumed), size)

    def go_case(self, literal, why):
        """Puts a literal on the path as one side of a case."""
        self.go(literal, opposite(literal), (("case", literal // 2), literal & 1 == 0), why)

    def go(self, literal, mate, side, why):
        """Puts a literal on the path.

        Its mate is the literal of the other side; the side tells the head of the book of both, and whether this
        one comes first in it; why tells what closes the other side, by itself or as the number of a want that does,
        or is None where it is still to be tried.
        """
        self.circuit.stand(literal)
        self.reasons.append((mate, side, why))

    def advanced(self):
        """Goes on by all that is asked for; tells what closes the path, or None."""
        standing = self.circuit.standing
        while self.many_seen < len(standing):
            literal = standing[self.many_seen]
            self.many_seen += 1
            for number in self.circuit.woken(literal):
                closed = self.heed(number)
                if closed is not None:
                    return closed
        for literal in standing[self.many_heard:]:
            self.state.tell(self.atoms[literal // 2], literal & 1 == 0)
        self.many_heard = len(standing)
        steps = self.state.close()
        return None if steps is None else self.closed_by_clash(steps)

    def closed_by_clash(self, steps):
        """What closes a path by a clash, which is kept."""
        used = {self.literal_of(step[1], step[2]): True for step in steps if step[0] == "told"}
        closed = (("clash", steps), used, len(steps) + 1)
        self.keep_book(closed)
        return closed

    def keep_book(self, closed):
        """Keeps what closes a path for all paths of the literals that it needs; tells the number of its want."""
        book, used, size = closed
        self.leaves.append((book, size))
        return self.circuit.lay_or([opposite(literal) for literal in used])

    def gone_back(self, closed):
        """Goes back to a literal that was tried and tries its mate; tells the whole book where there is none."""
        self.weigh(closed[1])
        while self.reasons:
            place = len(self.reasons) - 1
            literal = self.circuit.standing[place]
            mate, side, why = self.reasons.pop()
            self.circuit.fall_to(place)
            if why is None:
                self.state = self.saved.pop()
                self.many_heard = self.many_seen = place
            if literal in closed[1]:
                if why is None:
                    self.go(mate, literal, (side[0], not side[1]), self.learnt(closed))
                    return None
                other = self.closed_by(why, place, mate) if isinstance(why, int) else why
                closed = joined(side, (literal, closed), (mate, other))
        return closed[0]

    def learnt(self, closed):
        """What closes a path, as the number of a want where it is worth keeping."""
        if closed[2] <= LARGEST_KEPT and len(closed[1]) <= MOST_NEEDED:
            return self.keep_book(closed)
        return closed

    def weigh(self, used):
        """Gives weight to the atoms of a clash, more to later ones."""
        self.many_clashes += 1
        if self.many_clashes % CLASHES_TO_FADE == 0:
            self.gain *= 2
        for literal in used:
            self.weights[literal // 2] = self.weights.get(literal // 2, 0) + self.gain

    def tried(self):
        """Tries one more literal; tells the world where there is none to try."""
        told = outcome(self.state)
        world = told[1] if told[0] == "world" else None
        # As long as there is a world of the path, only what is not so in it is worth trying.
        literal = self.literal_of(told[1], False) if told[0] == "case" else self.picked(world)
        if literal is None and world is not None:
            return world
        self.saved.append(self.state.copied())
        if literal is None:
            self.go_cut(told[1], told[2])
        else:
            self.go_case(literal, None)
        return None

    def go_cut(self, name, number):
        """Puts the lower side of a cut on the path."""
        unknown = ("unknown", name)
        low = self.literal_of(("atmost", unknown, ("number", (number, 1))), True)
        high = self.literal_of(("atmost", ("number", (number + 1, 1)), unknown), True)
        self.go(low, high, (("cut", (name, number, low // 2, high // 2)), True), None)

    def picked(self, world):
        """A literal that would help a told statement that is open, and not so in a world if there is one; else None."""
        best = None
        truths = {}
        for node in self.circuit.wants[:self.many_laid]:
            if self.circuit.truths[node] is not None or world is not None and self.is_so(world, node, truths):
                continue
            literals = self.circuit.left_in(node)
            weight, literal = max([(self.weights.get(one // 2, 0), -one) for one in literals])
            # The narrowest one comes first, then that which clashes most.
            rank = (len(literals), -weight, -literal)
            if best is None or rank < best:
                best = rank
        return None if best is None else best[2]

    def is_so(self, world, node, truths):
        """Whether an open node is true in a world of the path; the truths of atoms are kept in a dict."""
        word = self.circuit.node_words[node]
        if word == "literal":
            literal = self.circuit.parts[node]
            if literal // 2 not in truths:
                truths[literal // 2] = holds(world, self.atoms[literal // 2])
            return truths[literal // 2] == (literal & 1 == 0)
        # One part settles an or by being so, an and by not being so.
        settling = word == "or"
        for part in self.circuit.open_parts(node):
            if self.is_so(world, part, truths) == settling:
                return settling
        return not settling


def joined(side, row, other_row):
    """What closes a path by two sides, each told as a literal and what closes the path with it."""
    head, is_first = side
    literal, (book, used, size) = row
    mate, (other, other_used, other_size) = other_row
    needed = {key: True for key in used if key != literal}
    needed.update({key: True for key in other_used if key != mate})
    whole = head + ((book, other) if is_first else (other, book))
    return (whole, needed, NEVER_KEPT if head[0] == "cut" else size + other_size + 1)
