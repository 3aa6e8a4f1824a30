"""Circuits: statements over literals that are numbers, and what is true of them by the literals that stand.

A literal is twice the number of its atom, and 1 more where its sign is False. A shape is a literal, or a
tuple of a word, and or or, and a tuple of shapes. A circuit holds wants, each known by its number: what is
to be true. A want is a told shape, or an or of literals alone, of which there may be many.

The parts of told shapes are nodes. What a node's truth is, is kept up with the literals that come to stand
and fall: each node knows how many of its parts can't settle it any more.
"""


def opposite(literal):
    """The literal of the same atom with the other sign."""
    return literal ^ 1


def shape_of(statement, sign, literal_of):
    """The shape of a statement, or of its contrary where the sign is False; an atom's literal is asked for."""
    word = statement[0]
    if word == "not":
        return shape_of(statement[1], not sign, literal_of)
    if word not in ("and", "or"):
        literal = literal_of(statement)
        return literal if sign else opposite(literal)
    told = word if sign else ("or" if word == "and" else "and")
    shapes = []
    for part in statement[1]:
        shape = shape_of(part, sign, literal_of)
        # An and within an and, an or within an or, is one with it.
        if isinstance(shape, tuple) and shape[0] == told:
            shapes.extend(shape[1])
        else:
            shapes.append(shape)
    return shapes[0] if len(shapes) == 1 else (told, tuple(shapes))


class Circuit:
    """Wants, and the literals that stand so far, in their order."""

    def __init__(self):
        # For each literal that stands, how many stood ahead of it.
        self.places = {}
        self.standing = []
        # For each want its node, or its tuple of literals.
        self.wants = []
        # For each node: its word, its parts (of a literal the literal), the node that it is part of, its truth,
        # and how many of its parts are true in an and, false in an or.
        self.node_words = []
        self.parts = []
        self.parents = []
        self.truths = []
        self.counts = []
        # For each atom the nodes that are literals of it, and the wants of these.
        self.spots = {}
        self.uses = {}
        # What has changed since, the last one last: a node and whether its truth has, or its count; and how much
        # had changed ahead of each literal that stands.
        self.changes = []
        self.marks = []
        # Of the literals of an or two are watched: as long as neither falls, or one is true, it asks for nothing.
        # For each such want its watched literals, and for each literal the wants.
        self.watched = {}
        self.watchers = {}

    def lay_shape(self, shape):
        """Puts a shape behind the other wants and tells its number; no literal stands yet."""
        number = len(self.wants)
        atoms = []
        self.wants.append(self.node_of(shape, atoms))
        for atom in sorted(set(atoms)):
            self.uses.setdefault(atom, []).append(number)
        return number

    def node_of(self, shape, atoms):
        """A new node of a shape; the atoms in it are put into a list."""
        if isinstance(shape, int):
            node = self.new_node("literal", shape, None)
            self.spots.setdefault(shape // 2, []).append(node)
            atoms.append(shape // 2)
            return node
        parts = [self.node_of(part, atoms) for part in shape[1]]
        settling = shape[0] == "or"
        truths = [self.truths[part] for part in parts]
        count = truths.count(not settling)
        truth = settling if settling in truths else (not settling if count == len(parts) else None)
        node = self.new_node(shape[0], parts, truth)
        self.counts[node] = count
        for part in parts:
            self.parents[part] = node
        return node

    def new_node(self, word, parts, truth):
        """The number of a new node that is part of none."""
        self.node_words.append(word)
        self.parts.append(parts)
        self.parents.append(None)
        self.truths.append(truth)
        self.counts.append(0)
        return len(self.parts) - 1

    def lay_or(self, literals):
        """Puts an or of literals behind the other wants and tells its number."""
        number = len(self.wants)
        self.wants.append(tuple(literals))
        # Those that fell last are open first, when literals are taken away from behind.
        latest = sorted(literals, key=lambda literal: -self.places.get(opposite(literal), len(self.standing)))
        self.watched[number] = latest[:2]
        for literal in latest[:2]:
            self.watchers.setdefault(literal, []).append(number)
        return number

    def stand(self, literal):
        """Lets a literal stand; where its atom stands with the other sign, that one goes on to tell."""
        self.standing.append(literal)
        self.marks.append(len(self.changes))
        if self.is_settled(literal):
            return
        self.places[literal] = len(self.standing) - 1
        for node in self.spots.get(literal // 2, []):
            self.settle_node(node, self.parts[node] == literal)

    def settle_node(self, node, truth):
        """Gives a node its truth, and so those that it is part of, as far as it settles them."""
        while node is not None and self.truths[node] is None:
            self.truths[node] = truth
            self.changes.append((node, True))
            node = self.parents[node]
            # What is part of a settled node needs not be counted: it will be open again first.
            if node is None or self.truths[node] is not None:
                return
            if truth != (self.node_words[node] == "or"):
                self.counts[node] += 1
                self.changes.append((node, False))
                if self.counts[node] < len(self.parts[node]):
                    return

    def fall_to(self, many):
        """Takes literals away from behind until so many stand."""
        while len(self.standing) > many:
            literal = self.standing.pop()
            if self.places.get(literal) == len(self.standing):
                del self.places[literal]
            mark = self.marks.pop()
            while len(self.changes) > mark:
                node, is_truth = self.changes.pop()
                if is_truth:
                    self.truths[node] = None
                else:
                    self.counts[node] -= 1

    def is_settled(self, literal):
        """Whether a literal's atom stands with either sign."""
        return literal in self.places or opposite(literal) in self.places

    def woken(self, literal):
        """The wants that may ask for something when a literal has come to stand, as a list."""
        fallen = opposite(literal)
        woken, staying = [], []
        watching = list(self.watchers.get(fallen, []))
        for number in watching:
            others = [watched for watched in self.watched[number] if watched != fallen]
            instead = None
            if not others or others[0] not in self.places:
                instead = self.watchable(number, others)
                if instead is None:
                    woken.append(number)
            if instead is None:
                staying.append(number)
            else:
                self.watched[number] = others + [instead]
                self.watchers.setdefault(instead, []).append(number)
        self.watchers[fallen] = staying
        return self.uses.get(literal // 2, []) + woken

    def watchable(self, number, others):
        """A literal of an or that has not fallen and is not watched yet, or None."""
        for literal in self.wants[number]:
            if opposite(literal) not in self.places and literal not in others:
                return literal
        return None

    def asked(self, number):
        """The literals that a want needs to be true, as a list; None where it can't be true any more."""
        want = self.wants[number]
        if isinstance(want, int):
            return None if self.truths[want] is False else self.asked_by(want)
        left = [literal for literal in want if opposite(literal) not in self.places]
        return left if len(left) == 1 else (None if not left else [])

    def asked_by(self, node):
        """The literals that a node that is not false needs to be true, as a list."""
        if self.truths[node] is True:
            return []
        if self.node_words[node] == "literal":
            return [self.parts[node]]
        if self.node_words[node] == "or" and self.counts[node] < len(self.parts[node]) - 1:
            return []
        literals = []
        for part in self.open_parts(node):
            literals.extend(self.asked_by(part))
        return literals

    def open_parts(self, node):
        """The parts of a node that are neither true nor false, as a list."""
        return [part for part in self.parts[node] if self.truths[part] is None]

    def left_in(self, node):
        """The literals by which an open node may become true, as a list."""
        if self.node_words[node] == "literal":
            return [self.parts[node]]
        literals = []
        for part in self.open_parts(node):
            literals.extend(self.left_in(part))
        return literals

    def blame(self, number, limit, assumed):
        """Literals by which a want is false, as a dict, of the first so many that stand and one assumed; else None."""
        want = self.wants[number]
        if isinstance(want, int):
            return self.blame_of(want, limit, assumed)
        return {opposite(literal): True for literal in want}

    def blame_of(self, node, limit, assumed):
        """As blame, of a node."""
        word = self.node_words[node]
        if word == "literal":
            literal = opposite(self.parts[node])
            if literal == assumed or self.places.get(literal, limit) < limit:
                return {literal: True}
            return None
        blames = [self.blame_of(part, limit, assumed) for part in self.parts[node]]
        if word == "and":
            return min([blame for blame in blames if blame is not None], key=lambda row: len(row), default=None)
        if None in blames:
            return None
        blamed = {}
        for blame in blames:
            blamed.update(blame)
        return blamed
