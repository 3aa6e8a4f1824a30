"""Circuits: statements over literals that are numbers, with the nots at the atoms alone.

A literal is twice the number of its atom, and 1 more where its sign is False. A node is a literal,
or a tuple of a word, and or or, and a tuple of nodes.
"""


def opposite(literal):
    """The literal of the same atom with the other sign."""
    return literal ^ 1


def node_of(statement, sign, literal_of):
    """The node of a statement, or of its contrary where the sign is False; an atom's literal is asked for."""
    word = statement[0]
    if word == "not":
        return node_of(statement[1], not sign, literal_of)
    if word not in ("and", "or"):
        literal = literal_of(statement)
        return literal if sign else opposite(literal)
    told = word if sign else ("or" if word == "and" else "and")
    nodes = []
    for part in statement[1]:
        node = node_of(part, sign, literal_of)
        # An and within an and, an or within an or, is one with it.
        if isinstance(node, tuple) and node[0] == told:
            nodes.extend(node[1])
        else:
            nodes.append(node)
    return nodes[0] if len(nodes) == 1 else (told, tuple(nodes))


def literals_in(node):
    """The literals of a node, as often as they stand in it."""
    if isinstance(node, int):
        return [node]
    literals = []
    for part in node[1]:
        literals.extend(literals_in(part))
    return literals


class Circuit:
    """Nodes that are to be true, and the literals that stand so far, in their order."""

    def __init__(self):
        # For each literal that stands, how many stood ahead of it.
        self.places = {}
        self.standing = []
        self.nodes = []
        # For each atom the numbers of the nodes that are looked at when it comes to stand.
        self.uses = {}
        # Of a node that is an or of literals alone, laid by lay_or, two are watched: as long as neither falls, or one
        # is true, it asks for nothing. For each node its watched literals, and for each literal the nodes.
        self.watched = {}
        self.watchers = {}

    def lay_node(self, node):
        """Puts a node behind the others and tells its number."""
        number = len(self.nodes)
        self.nodes.append(node)
        for atom in sorted({literal // 2 for literal in literals_in(node)}):
            self.uses.setdefault(atom, []).append(number)
        return number

    def lay_or(self, literals):
        """Puts an or of literals behind the other nodes and tells its number."""
        number = len(self.nodes)
        self.nodes.append(("or", tuple(literals)))
        # Those that fell last are open first, when literals are taken away from behind.
        latest = sorted(literals, key=lambda literal: -self.places.get(opposite(literal), len(self.standing)))
        self.watched[number] = latest[:2]
        for literal in latest[:2]:
            self.watchers.setdefault(literal, []).append(number)
        return number

    def woken(self, literal):
        """The nodes laid by lay_or that may ask for something when a literal has come to stand, as a list."""
        fallen = opposite(literal)
        woken, staying = [], []
        watching = list(self.watchers.get(fallen, []))
        for number in watching:
            others = [watched for watched in self.watched[number] if watched != fallen]
            if others and others[0] in self.places:
                staying.append(number)
                continue
            instead = self.watchable(number, others)
            if instead is None:
                staying.append(number)
                woken.append(number)
            else:
                self.watched[number] = others + [instead]
                self.watchers.setdefault(instead, []).append(number)
        self.watchers[fallen] = staying
        return woken

    def watchable(self, number, others):
        """A literal of a node that has not fallen and is not watched yet, or None."""
        for literal in self.nodes[number][1]:
            if opposite(literal) not in self.places and literal not in others:
                return literal
        return None

    def stand(self, literal):
        """Lets a literal stand; where its atom stands with the other sign, that one goes on to tell."""
        self.standing.append(literal)
        if not self.is_settled(literal):
            self.places[literal] = len(self.standing) - 1

    def fall_to(self, many):
        """Takes literals away from behind until so many stand."""
        while len(self.standing) > many:
            literal = self.standing.pop()
            if self.places.get(literal) == len(self.standing):
                del self.places[literal]

    def is_settled(self, literal):
        """Whether a literal's atom stands with either sign."""
        return literal in self.places or opposite(literal) in self.places

    def truth(self, node):
        """Whether a node is true or false by the literals that stand, or None where it is open."""
        if isinstance(node, int):
            if node in self.places:
                return True
            return False if opposite(node) in self.places else None
        settling = node[0] == "or"
        told = not settling
        for part in node[1]:
            truth = self.truth(part)
            if truth is settling:
                return settling
            if truth is None:
                told = None
        return told

    def asked(self, node):
        """The literals that a node needs to be true, as a list; None where it can't be true any more."""
        if isinstance(node, int):
            if node in self.places:
                return []
            return None if opposite(node) in self.places else [node]
        if node[0] == "or":
            return self.asked_of_or(node)
        literals = []
        for part in node[1]:
            asked = self.asked(part)
            if asked is None:
                return None
            literals.extend(asked)
        return literals

    def asked_of_or(self, node):
        """As asked, of an or: it needs something where one of its nodes alone is left."""
        left = []
        for part in node[1]:
            truth = self.truth(part)
            if truth is True:
                return []
            if truth is None:
                left.append(part)
                if len(left) > 1:
                    return []
        return self.asked(left[0]) if left else None

    def left_in(self, node):
        """The literals by which an open node may become true, as a list."""
        if isinstance(node, int):
            return [node]
        literals = []
        for part in node[1]:
            if self.truth(part) is None:
                literals.extend(self.left_in(part))
        return literals

    def blame(self, node, limit, assumed):
        """Literals by which a node is false, as a dict, of the first so many that stand and one assumed; else None."""
        if isinstance(node, int):
            literal = opposite(node)
            if literal == assumed or self.places.get(literal, limit) < limit:
                return {literal: True}
            return None
        if node[0] == "and":
            blames = [self.blame(part, limit, assumed) for part in node[1]]
            return min([blame for blame in blames if blame is not None], key=lambda row: len(row), default=None)
        blamed = {}
        for part in node[1]:
            own = self.blame(part, limit, assumed)
            if own is None:
                return None
            blamed.update(own)
        return blamed
