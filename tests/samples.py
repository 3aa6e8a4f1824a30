"""Names, terms and things of other kinds that several tests use."""

from partproof.names import Names
from partproof.worlds import World


def names():
    return Names(["x", "y"], [("k", 0, 5), ("m", -3, 3)], ["c", "d"],
                 [("f", ("num",), "num"), ("g", ("thing", "num"), "thing"), ("h", ("thing", "thing", "num"), "num"),
                  ("p", ("thing",), "thing")],
                 ["a", "b"])


def fields():
    """The four dicts of a world of the sample names, made anew each time."""
    return [{"x": (1, 2), "y": (-3, 1), "k": (5, 1), "m": (-3, 1)},
            {"c": 4, "d": -7},
            {"f": ({((1, 2),): (2, 1), ((2, 1),): (7, 3)}, (0, 1)),
             "g": ({(4, (1, 2)): 9, (-7, (0, 1)): 4}, -1),
             "h": ({(4, -7, (1, 1)): (1, 3)}, (5, 1)),
             "p": ({}, 4)},
            {"a": ({(1, 2): (8, 1), (0, 1): (-1, 2)}, (3, 1)), "b": ({}, (0, 1))}]


def world():
    return World(*fields())


def number(top, bottom=1):
    return ("number", (top, bottom))


def unknown(name):
    return ("unknown", name)


def weigh(top, bottom, term):
    return ("weigh", (top, bottom), term)


def plus(*terms):
    return ("plus", terms)


def call(name, *terms):
    return ("call", name, terms)


def read(array, place):
    return ("read", array, place)


def put(array, place, told):
    return ("put", array, place, told)


X, Y, K, M, C, D, A, B = [unknown(name) for name in "xykmcdab"]
ZERO, ONE, HALF = number(0), number(1), number(1, 2)

# Each wraps a term of a kind into one of the same kind that is one deeper.
NUM_WRAPS = (lambda term: weigh(1, 2, term), lambda term: plus(term), lambda term: plus(X, term, ONE),
             lambda term: call("f", term), lambda term: call("h", C, D, term), lambda term: read(A, term))
THING_WRAPS = (lambda term: call("p", term), lambda term: call("g", term, ONE))
ARRAY_WRAPS = (lambda term: put(term, ONE, X),)


# How deep tuples may stand in one another in the key of a dict.
DEEPEST_KEY = 8


def depth(thing):
    """How deep tuples stand in one another in a thing."""
    return 1 + max([depth(part) for part in thing], default=0) if isinstance(thing, tuple) else 0


def deep(wrap, leaf, many):
    """A leaf that is one deep, wrapped until it is so many deep."""
    for turn in range(many - 1):
        leaf = wrap(leaf)
    return leaf


def other_kinds():
    return [None, True, False, 0, 1, -1, 10 ** 59, "", "x", "number", "plus", "and", b"", b"number", (), [], {}, set(),
            frozenset(), object(), names(), Names, len, range(2), (1, 2), (None,), ((),), ([],), ({},), ("",), ("x",),
            ["number", (1, 1)], ["unknown", "x"], {"number": (1, 1)}, {"unknown": "x"}, ["and", ()],
            (("number",), (1, 1)), (b"number", (1, 1)), (None, "x"), (0, "x"), (["plus"], ()), ({}, ())]


def changed_somewhere(thing, change):
    """All things that come of one made of tuples by a change at one place; the change tells (changed,), or None."""
    changed = change(thing)
    if changed is not None:
        yield changed[0]
    if isinstance(thing, tuple):
        for at, part in enumerate(thing):
            for inner in changed_somewhere(part, change):
                yield thing[:at] + (inner,) + thing[at + 1:]


def as_list(thing):
    """For changed_somewhere: a tuple as a list."""
    return (list(thing),) if isinstance(thing, tuple) else None


def as_other_truth(thing):
    """For changed_somewhere: a truth as the number that equals it, and the other way round."""
    if isinstance(thing, bool):
        return (int(thing),)
    return (bool(thing),) if isinstance(thing, int) and thing in (0, 1) else None
