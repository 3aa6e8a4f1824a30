"""The names of which statements speak."""

from partproof.errors import BadNames
from partproof.fractions import is_whole

LETTERS = "abcdefghijklmnopqrstuvwxyz"
LONGEST_NAME = 8
WIDEST_BOUNDS = 60
MOST_VALUES = 3600
MOST_KINDS = 3


def is_name(thing):
    """Whether a thing is a name."""
    if not isinstance(thing, str) or not 1 <= len(thing) <= LONGEST_NAME:
        return False
    return all([sign in LETTERS for sign in thing])


def is_row(thing):
    """Whether a thing has the outer form of a whole or a function: a tuple of three, a name first."""
    return isinstance(thing, tuple) and len(thing) == 3 and is_name(thing[0])


def is_kind(thing):
    """Whether a thing is a kind that a function takes or tells."""
    return isinstance(thing, str) and thing in ("num", "thing")


def is_list_of_names(thing):
    """Whether a thing is a list of names alone."""
    return isinstance(thing, list) and all([is_name(part) for part in thing])


def is_bounded(thing):
    """Whether a thing is a tuple (name, low, high) as a whole has it."""
    if not is_row(thing) or not is_whole(thing[1]) or not is_whole(thing[2]):
        return False
    return thing[1] <= thing[2] <= thing[1] + WIDEST_BOUNDS


def is_function(thing):
    """Whether a thing is a tuple (name, kinds, kind)."""
    if not is_row(thing) or not isinstance(thing[1], tuple) or not is_kind(thing[2]):
        return False
    return 1 <= len(thing[1]) <= MOST_KINDS and all([is_kind(part) for part in thing[1]])


def check_wholes(wholes):
    """Refuses what is no list of wholes, or has too many values together."""
    if not isinstance(wholes, list) or not all([is_bounded(row) for row in wholes]):
        raise BadNames("wholes are a list of tuples (name, low, high)")
    values = 1
    for name, low, high in wholes:
        values *= high - low + 1
    if values > MOST_VALUES:
        raise BadNames("the wholes have too many values together")


def check_functions(functions):
    """Refuses what is no list of functions."""
    if not isinstance(functions, list) or not all([is_function(row) for row in functions]):
        raise BadNames("functions are a list of tuples (name, kinds, kind)")


def check_names(names):
    """Refuses what is no list of names."""
    if not is_list_of_names(names):
        raise BadNames("numbers, things and arrays are lists of names")


def first_parts(rows):
    """The names of wholes or functions."""
    return [row[0] for row in rows]


def check_unlike(names):
    """Refuses names of which one comes twice."""
    if len(set(names)) != len(names):
        raise BadNames("all names are unlike")


class Names:
    """Names of numbers, wholes, things, functions and arrays; once made, they never change."""

    def __init__(self, numbers, wholes, things, functions, arrays):
        for names in (numbers, things, arrays):
            check_names(names)
        check_wholes(wholes)
        check_functions(functions)
        check_unlike(numbers + first_parts(wholes) + things + first_parts(functions) + arrays)
        self.numbers = list(numbers)
        self.wholes = list(wholes)
        self.things = list(things)
        self.functions = list(functions)
        self.arrays = list(arrays)
        self.limits = {name: (low, high) for name, low, high in wholes}
        self.deeds = {name: (kinds, kind) for name, kinds, kind in functions}
        self.unknowns = {name: "num" for name in numbers + first_parts(wholes)}
        self.unknowns.update({name: "thing" for name in things})
        self.unknowns.update({name: "array" for name in arrays})

    def all_numbers(self):
        """The numbers, as a new list."""
        return list(self.numbers)

    def all_wholes(self):
        """The wholes, as a new list of tuples (name, low, high)."""
        return list(self.wholes)

    def all_things(self):
        """The things, as a new list."""
        return list(self.things)

    def all_functions(self):
        """The functions, as a new list of tuples (name, kinds, kind)."""
        return list(self.functions)

    def all_arrays(self):
        """The arrays, as a new list."""
        return list(self.arrays)

    def kind(self, name):
        """The kind of an unknown, or None where it is no unknown's name."""
        # What is no text may be no key either, so it is not asked of the dict.
        return self.unknowns.get(name) if isinstance(name, str) else None

    def bounds(self, name):
        """The tuple (low, high) of a whole, or None."""
        return self.limits.get(name) if isinstance(name, str) else None

    def function(self, name):
        """The tuple (kinds, kind) of a function, or None."""
        return self.deeds.get(name) if isinstance(name, str) else None
