"""Point 3: whatever is shown or let by, whoever wrote it, is so in each world; tried with many small worlds."""

import itertools
import random
import unittest
from collections import Counter
from fractions import Fraction

from partproof.arrays import is_read_of_put, need
from partproof.books import is_false, lets_by
from partproof.facts import fact_of
from partproof.likeness import pairs_of, places_of
from partproof.names import Names
from partproof.statements import atoms_of
from partproof.steps import is_clash, shown
from partproof.sums import settled
from partproof.worlds import World, holds, is_world, value
from reckoning import pair, value_of
from samples import A, B, C, D, HALF, K, M, ONE, X, Y, ZERO, call, plus, put, read, weigh

NAMES = Names(["x", "y"], [("k", 0, 2), ("m", -1, 1)], ["c", "d"],
              [("f", ("num",), "num"), ("p", ("thing",), "thing"), ("g", ("thing", "num"), "num")], ["a", "b"])
NUMBERS = [pair(text) for text in ("-1", "0", "1/2", "1", "2")]
NEVER = ("below", ONE, ZERO)
WORDS = ("told", "told", "told", "bound", "sum", "sum", "both", "apart", "round", "like", "chain", "hit", "miss",
         "miss")
ROWS = ("atmost", "below", "equal")

NUMS = [X, Y, K, M, ZERO, ONE, HALF, plus(X, ONE), plus(Y, HALF), weigh(2, 1, K), weigh(-1, 2, M), plus(K, M),
        plus(weigh(2, 1, K), weigh(-4, 1, M), ONE), plus(weigh(1, 2, K), weigh(1, 3, M)), call("f", X), call("f", Y),
        call("f", plus(X)), call("f", K), call("g", C, X), call("g", D, X), call("g", D, Y), read(A, X), read(A, Y),
        read(B, K), read(B, M), read(put(A, X, Y), Y), read(put(A, X, ONE), X), read(put(put(B, K, X), M, Y), ONE),
        read(put(A, ONE, X), plus(X, HALF)), read(put(B, weigh(2, 1, X), K), plus(X, X))]
THINGS = [C, D, call("p", C), call("p", D), call("p", call("p", C))]


def chance_world(chance):
    """A world in which few values come again and again."""
    def some(values, most):
        return {key: chance.choice(NUMBERS) for key in values if chance.random() < most}

    numbers = {"x": chance.choice(NUMBERS), "y": chance.choice(NUMBERS), "k": (chance.randint(0, 2), 1),
               "m": (chance.randint(-1, 1), 1)}
    things = {"c": chance.randint(0, 1), "d": chance.randint(0, 1)}
    functions = {"f": (some([(one,) for one in NUMBERS], 0.5), (0, 1)),
                 "p": ({(thing,): chance.randint(0, 1) for thing in (0, 1)}, 1),
                 "g": (some([(thing, one) for thing in (0, 1) for one in NUMBERS], 0.5), (1, 1))}
    return World(numbers, things, functions, {"a": (some(NUMBERS, 0.5), (0, 1)), "b": (some(NUMBERS, 0.5), (1, 1))})


READS = [term for term in NUMS if is_read_of_put(term)]
PAIRS = pairs_of(NUMS + THINGS)


def chance_atom(chance):
    """An atom of chance terms, or one that a step may need: of places, arguments, or things."""
    word = chance.choice(["nums", "nums", "things", "need", "places"])
    if word == "nums":
        return (chance.choice(["atmost", "below", "same"]), chance.choice(NUMS), chance.choice(NUMS))
    if word == "things":
        return ("same", chance.choice(THINGS), chance.choice(THINGS))
    if word == "need":
        return need(chance.choice(READS))
    one, other = chance.choice(PAIRS)
    return ("same", places_of(one)[-1], places_of(other)[-1])


def turned(atom):
    return (atom[0], atom[2], atom[1])


def is_so(world, fact):
    """Whether a fact is so in a world."""
    if fact[0] in ("alike", "other"):
        return (value(world, fact[1]) == value(world, fact[2])) == (fact[0] == "alike")
    told = value_of(fact[1], {base: value(world, base) for base in fact[1][1]})
    return {"atmost": told <= 0, "below": told < 0, "equal": told == 0, "unlike": told != 0}[fact[0]]


class Tries:
    """Steps tried one behind another for a path that is so in a world; those that show something stay."""

    def __init__(self, chance, many):
        self.chance = chance
        self.world = chance_world(chance)
        atoms = [chance_atom(chance) for turn in range(many)]
        atoms += [turned(atom) for atom in atoms if chance.random() < 0.4]
        self.path = tuple([(atom, holds(self.world, atom)) for atom in atoms])
        self.steps = ()
        self.facts = []

    def cite(self, *words):
        """The number of a step, mostly of one that shows a fact with one of the words; at times one that is none."""
        likely = [at for at, fact in enumerate(self.facts) if fact[0] in words]
        if likely and self.chance.random() < 0.7:
            return self.chance.choice(likely)
        return self.chance.choice([None, len(self.steps)] + list(range(len(self.steps))))

    def weight(self):
        return self.chance.choice([(1, 1), (1, 1), (2, 1), (1, 2), (0, 1), (-1, 1), (-3, 2)])

    def thing(self):
        """A term of the kind thing, mostly one of which a fact speaks."""
        spoken = [term for fact in self.facts if fact[0] == "alike" for term in fact[1:]]
        return self.chance.choice(spoken if spoken and self.chance.random() < 0.8 else THINGS)

    def apart_step(self):
        """A step of the terms of the step cited, where it has some, at times with a constant more."""
        number_of = self.cite("below", "below", "atmost")
        one, other = self.chance.choice(NUMS), self.chance.choice(NUMS)
        if number_of is not None and number_of < len(self.steps) and self.steps[number_of][0] == "told":
            one, other = self.steps[number_of][1][1:]
            if self.chance.random() < 0.5:
                one, other = other, plus(one, self.chance.choice([HALF, ONE, weigh(-1, 1, HALF), weigh(-1, 1, ONE)]))
        return ("apart", number_of, one, other)

    def chance_step(self):
        """A step of a sort that is chosen first, so that each comes often enough."""
        chance, word = self.chance, self.chance.choice(WORDS)
        if word == "told":
            atom, sign = chance.choice(self.path)
            return ("told", atom, sign if chance.random() < 0.8 else not sign)
        if word == "bound":
            return ("bound", chance.choice("kmx"), chance.choice(["low", "high"]))
        if word == "sum":
            return ("sum", tuple([(self.cite(*ROWS), self.weight()) for turn in range(chance.randint(1, 3))]))
        if word == "both":
            return ("both", self.cite("atmost", "equal"), self.cite("atmost", "equal"))
        if word == "apart":
            return self.apart_step()
        if word == "round":
            return ("round", self.cite(*ROWS))
        if word == "like":
            one, other = chance.choice(PAIRS)
            return ("like", one, other, tuple([self.cite("equal", "alike") for place in places_of(one)]))
        if word == "chain":
            cites = tuple([self.cite("alike") for turn in range(chance.randint(1, 3))])
            return ("chain", cites, self.thing(), self.thing())
        return (word, chance.choice(READS), self.cite("equal" if word == "hit" else "unlike"))

    def try_step(self):
        """The word and the fact of a chance step, or None where it shows none."""
        step = self.chance_step()
        steps = self.steps + (step,)
        facts = shown(NAMES, self.path + ((NEVER, True),), steps + (("told", NEVER, True), ("end", len(steps))))
        if facts is None:
            return None
        self.steps, self.facts = steps, facts[:-1]
        return step[0], self.facts[-1]


class TestSteps(unittest.TestCase):
    def test_whatever_is_shown_is_so(self):
        chance = random.Random(31)
        shown_words = Counter()
        for turn in range(200):
            tries = Tries(chance, 8)
            self.assertTrue(is_world(NAMES, tries.world))
            for time in range(60):
                told = tries.try_step()
                if told is not None:
                    shown_words[told[0]] += 1
                    self.assertTrue(is_so(tries.world, told[1]), (tries.path, tries.steps, told))
                if len(tries.steps) > 19:
                    break
            # What is so of some world is no clash, whatever ends it.
            for time in range(20):
                ends = [chance.randrange(len(tries.steps)) for many in range(chance.randint(1, 2))]
                self.assertFalse(is_clash(NAMES, tries.path, tries.steps + (("end", *ends),)))
        for word in WORDS:
            self.assertGreater(shown_words[word], 15, shown_words)


LINEAR = [(word, one, other) for word in ("atmost", "below", "same")
          for one, other in [(X, Y), (Y, X), (X, ONE), (ONE, Y), (K, X), (weigh(2, 1, K), ONE), (plus(X, Y), K),
                             (Y, HALF), (ONE, K), (plus(X, ONE), Y)]]
VALUES = [pair(Fraction(value, 2)) for value in range(-4, 5)]
WORLDS = [World({"x": x, "y": y, "k": (k, 1), "m": (0, 1)}, {"c": 0, "d": 0},
                {"f": ({}, (0, 1)), "p": ({}, 0), "g": ({}, (0, 1))}, {"a": ({}, (0, 1)), "b": ({}, (0, 1))})
          for x, y, k in itertools.product(VALUES, VALUES, range(3))]


def some_world(statements):
    """A world out of the small ones that makes all statements true, or None."""
    for world in WORLDS:
        if all(holds(world, statement) for statement in statements):
            return world
    return None


def chance_statement(chance, atoms, room):
    word = chance.choice(["atom", "atom", "not", "and", "or"]) if room else "atom"
    if word == "atom":
        return chance.choice(atoms)
    if word == "not":
        return ("not", chance_statement(chance, atoms, room - 1))
    return (word, tuple([chance_statement(chance, atoms, room - 1) for turn in range(chance.randint(1, 3))]))


def clash_of(path):
    """A clash of a path by sums and bounds alone, or None."""
    steps = [("told",) + literal for literal in path] + [("bound", "k", "low"), ("bound", "k", "high")]
    rows = [fact_of(NAMES, *literal) for literal in path] + [("atmost", ((0, 1), {K: (-1, 1)})),
                                                              ("atmost", ((-2, 1), {K: (1, 1)}))]
    known = [at for at, row in enumerate(rows) if row[0] != "unlike"]
    word, weights = settled([rows[at] for at in known])
    if word == "weights":
        return ("clash", tuple(steps) + (("sum", tuple(zip(known, weights))), ("end", len(steps))))
    return None


def book_of(statements, atoms, path=()):
    """A book of cases for statements, or None where there is none by sums and cases of the atoms alone."""
    for at, statement in enumerate(statements):
        if is_false(statement, path):
            return ("plain", at)
    clash = clash_of(path)
    if clash is not None or not atoms:
        return clash
    yes, no = [book_of(statements, atoms[1:], path + ((atoms[0], sign),)) for sign in (True, False)]
    return None if yes is None or no is None else ("case", atoms[0], yes, no)


def places_in(thing, at=()):
    """The places of all things in one made of tuples."""
    yield at
    if isinstance(thing, tuple):
        for number_of, part in enumerate(thing):
            yield from places_in(part, at + (number_of,))


def thing_at(thing, place):
    for number_of in place:
        thing = thing[number_of]
    return thing


def with_thing_at(thing, place, new):
    if not place:
        return new
    return thing[:place[0]] + (with_thing_at(thing[place[0]], place[1:], new),) + thing[place[0] + 1:]


def changed_book(chance, book):
    """A book with something in it changed for something else of it, or for a number or a sign."""
    places = list(places_in(book))
    new = thing_at(book, chance.choice(places))
    if chance.random() < 0.4:
        new = chance.choice([0, 1, 2, True, False, (1, 1), (0, 1), (-1, 1), None])
    return with_thing_at(book, chance.choice(places), new)


class TestBooks(unittest.TestCase):
    def test_right_books_and_changed_ones(self):
        chance = random.Random(32)
        right, let_by, refused = 0, 0, 0
        for turn in range(300):
            atoms = chance.sample(LINEAR, 4)
            statements = tuple([chance_statement(chance, atoms, 2) for many in range(chance.randint(2, 5))])
            book = book_of(statements, [atom for atom in atoms if atom in atoms_of(("and", statements))])
            if book is None:
                continue
            right += 1
            self.assertTrue(lets_by(NAMES, statements, book))
            self.assertIsNone(some_world(statements))
            for time in range(12):
                tried = changed_book(chance, book) if chance.random() < 0.7 else book
                others = list(statements)
                others[chance.randrange(len(others))] = chance_statement(chance, atoms, 1)
                if lets_by(NAMES, tuple(others), tried):
                    let_by += 1
                    self.assertIsNone(some_world(others), (others, tried))
                else:
                    refused += 1
        self.assertGreater(right, 60)
        self.assertGreater(let_by, 60)
        self.assertGreater(refused, 60)


if __name__ == "__main__":
    unittest.main()
