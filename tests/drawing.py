"""Names, terms and statements drawn by seeds, and a number of small worlds of the names."""

import random

from partproof.names import Names
from partproof.worlds import World
from samples import call, number, plus, put, read, unknown, weigh

FUNCTIONS = [("f", ("num",), "num"), ("g", ("num", "num"), "num"), ("h", ("thing", "num"), "num"),
             ("p", ("thing",), "thing"), ("q", ("num",), "thing")]


def drawn_names(has_wholes=True):
    wholes = [("k", 0, 2), ("m", -1, 1), ("n", 0, 9)] if has_wholes else []
    return Names(["x", "y", "z"], wholes, ["c", "d", "e"], FUNCTIONS, ["a", "b"])


class Draw:
    """Draws by a seed; deepest is how deep terms may be."""

    def __init__(self, seed, deepest=3, has_wholes=True, has_arrays=True):
        self.random = random.Random(seed)
        self.deepest = deepest
        self.has_wholes = has_wholes
        self.has_arrays = has_arrays
        self.names = drawn_names(has_wholes)

    def one_of(self, *things):
        return self.random.choice(things)

    def num(self, deep):
        deeds = [self.number, self.unknown]
        if deep > 1:
            deeds += [self.weigh, self.plus, self.plus, self.call, self.call]
            deeds += [self.read, self.read] if self.has_arrays else []
        return self.random.choice(deeds)(deep - 1)

    def number(self, deep):
        return number(*self.one_of((-2, 1), (-1, 1), (0, 1), (1, 1), (2, 1), (3, 1), (1, 2), (-3, 2)))

    def unknown(self, deep):
        return unknown(self.random.choice("xyzkmn" if self.has_wholes else "xyz"))

    def weigh(self, deep):
        return weigh(*self.one_of((1, 2), (2, 1), (-1, 1), (3, 1), (0, 1)), self.num(deep))

    def plus(self, deep):
        return plus(*[self.num(deep) for turn in range(self.one_of(1, 2, 2, 3))])

    def call(self, deep):
        name = self.random.choice("ffgh")
        if name == "g":
            return call("g", self.num(deep), self.num(deep))
        return call("f", self.num(deep)) if name == "f" else call("h", self.thing(deep), self.num(deep))

    def read(self, deep):
        return read(self.array(deep), self.num(deep))

    def array(self, deep):
        if deep > 1 and self.one_of(True, True, False):
            return put(self.array(deep - 1), self.num(deep - 1), self.num(deep - 1))
        return unknown(self.random.choice("ab"))

    def thing(self, deep):
        if deep > 1 and self.one_of(True, False):
            return call("p", self.thing(deep - 1)) if self.one_of(True, False) else call("q", self.num(deep - 1))
        return unknown(self.random.choice("cde"))

    def depth(self):
        return self.random.randint(1, self.deepest)

    def atom(self):
        if self.one_of(True, False, False, False):
            return ("same", self.thing(self.depth()), self.thing(self.depth()))
        return (self.one_of("atmost", "below", "same", "same"), self.num(self.depth()), self.num(self.depth()))

    def literals(self, many):
        return tuple([(self.atom(), self.one_of(True, True, False)) for turn in range(many)])

    def statement(self, atoms, deep):
        word = self.one_of("atom", "not", "and", "or", "or") if deep > 1 else "atom"
        if word == "atom":
            return self.random.choice(atoms)
        if word == "not":
            return ("not", self.statement(atoms, deep - 1))
        many = self.one_of(0, 1, 2, 2, 2, 2, 3, 3)
        return (word, tuple([self.statement(atoms, deep - 1) for turn in range(many)]))

    def told(self, many_atoms, many):
        atoms = [self.atom() for turn in range(many_atoms)]
        return tuple([self.statement(atoms, self.one_of(1, 2, 3)) for turn in range(many)])


def small_worlds(has_wholes, many, seed):
    """A number of worlds of the drawn names with small values."""
    draw = random.Random(seed)

    def num():
        return draw.choice([(-1, 1), (0, 1), (1, 1), (2, 1), (1, 2)])

    def thing():
        return draw.choice([0, 1])

    def function(kinds, kind):
        values = {"num": num, "thing": thing}
        table = {tuple([values[part]() for part in kinds]): values[kind]() for turn in range(6)}
        return (table, values[kind]())

    worlds = []
    for turn in range(many):
        numbers = {name: num() for name in "xyz"}
        if has_wholes:
            numbers.update({"k": (draw.randint(0, 2), 1), "m": (draw.randint(-1, 1), 1), "n": (draw.randint(0, 9), 1)})
        functions = {name: function(kinds, kind) for name, kinds, kind in FUNCTIONS}
        arrays = {name: ({num(): num() for turn in range(3)}, num()) for name in "ab"}
        worlds.append(World(numbers, {name: thing() for name in "cde"}, functions, arrays))
    return worlds
