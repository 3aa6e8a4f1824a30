"""Worlds, and the values and truths in them."""

from partproof.fractions import ZERO, is_fraction, is_whole, plus, times, under

# A field's dict, the tuple of a function or an array in it, its table, and what stands there.
LEVELS = 4


def owned(thing, levels):
    """A copy that shares no list or dict with a thing, so many levels down."""
    if levels == 0:
        return thing
    if isinstance(thing, dict):
        return {key: owned(part, levels - 1) for key, part in thing.items()}
    if isinstance(thing, list):
        return [owned(part, levels - 1) for part in thing]
    if isinstance(thing, tuple):
        return tuple([owned(part, levels - 1) for part in thing])
    return thing


class World:
    """Values for names; whatever is handed in is kept, as a copy."""

    def __init__(self, numbers, things, functions, arrays):
        self.numbers = owned(numbers, LEVELS)
        self.things = owned(things, LEVELS)
        self.functions = owned(functions, LEVELS)
        self.arrays = owned(arrays, LEVELS)


def is_world(names, thing):
    """Whether a thing is a world of the names."""
    if not isinstance(thing, World):
        return False
    if not fits_numbers(names, thing.numbers) or not fits_things(names, thing.things):
        return False
    return fits_functions(names, thing.functions) and fits_arrays(names, thing.arrays)


def has_just(thing, wanted):
    """Whether a thing is a dict of just the wanted names."""
    if not isinstance(thing, dict) or len(thing) != len(wanted):
        return False
    return all([name in thing for name in wanted])


def fits_numbers(names, numbers):
    """Whether a thing has fractions for the numbers and the wholes, those within their bounds."""
    wholes = names.all_wholes()
    if not has_just(numbers, names.all_numbers() + [row[0] for row in wholes]):
        return False
    if not all([is_fraction(number) for number in numbers.values()]):
        return False
    return all([numbers[name][1] == 1 and low <= numbers[name][0] <= high for name, low, high in wholes])


def fits_things(names, things):
    """Whether a thing has whole numbers for the things."""
    return has_just(things, names.all_things()) and all([is_whole(number) for number in things.values()])


def fits_functions(names, functions):
    """Whether a thing has tables and rests of the right kinds for the functions."""
    rows = names.all_functions()
    if not has_just(functions, [row[0] for row in rows]):
        return False
    return all([fits_function(functions[name], kinds, kind) for name, kinds, kind in rows])


def fits_function(thing, kinds, kind):
    """Whether a thing is a tuple (table, rest) of a function of these kinds."""
    if not is_table(thing) or not is_value(thing[1], kind):
        return False
    return all([fits_key(key, kinds) and is_value(told, kind) for key, told in thing[0].items()])


def fits_key(key, kinds):
    """Whether a key of a function's table is a tuple of values of these kinds."""
    if not isinstance(key, tuple) or len(key) != len(kinds):
        return False
    return all([is_value(part, kind) for part, kind in zip(key, kinds)])


def fits_arrays(names, arrays):
    """Whether a thing has tables and rests of fractions for the arrays."""
    return has_just(arrays, names.all_arrays()) and all([fits_array(thing) for thing in arrays.values()])


def fits_array(thing):
    """Whether a thing is a tuple (table, rest) of an array."""
    if not is_table(thing) or not is_fraction(thing[1]):
        return False
    return all([is_fraction(place) and is_fraction(told) for place, told in thing[0].items()])


def is_table(thing):
    """Whether a thing is a tuple of two, a dict first."""
    return isinstance(thing, tuple) and len(thing) == 2 and isinstance(thing[0], dict)


def is_value(thing, kind):
    """Whether a thing is a value of the kind num or thing."""
    return is_fraction(thing) if kind == "num" else is_whole(thing)


def value(world, term):
    """The value of a term in a world: of an array a tuple (table, rest) that is the asker's own."""
    word = term[0]
    if word == "number":
        return term[1]
    if word == "unknown":
        return value_of_unknown(world, term[1])
    if word == "weigh":
        return times(term[1], value(world, term[2]))
    if word == "plus":
        return sum_of([value(world, part) for part in term[1]])
    if word == "call":
        return looked_up(world.functions[term[1]], tuple([value(world, part) for part in term[2]]))
    if word == "read":
        return looked_up(value(world, term[1]), value(world, term[2]))
    return with_put(value(world, term[1]), value(world, term[2]), value(world, term[3]))


def value_of_unknown(world, name):
    """The value of a number, a whole, a thing or an array."""
    if name in world.numbers:
        return world.numbers[name]
    if name in world.things:
        return world.things[name]
    table, rest = world.arrays[name]
    return (dict(table), rest)


def sum_of(numbers):
    """The sum of a list of fractions."""
    total = ZERO
    for number in numbers:
        total = plus(total, number)
    return total


def looked_up(pair, key):
    """What a table has for a key, else the rest."""
    table, rest = pair
    return table.get(key, rest)


def with_put(pair, place, told):
    """An array with another value at a place; its table is nobody else's (see value), so it is put into as it is."""
    table, rest = pair
    table[place] = told
    return (table, rest)


def holds(world, statement):
    """Whether a statement is true in a world."""
    word = statement[0]
    if word == "not":
        return not holds(world, statement[1])
    if word == "and":
        return all([holds(world, part) for part in statement[1]])
    if word == "or":
        return any([holds(world, part) for part in statement[1]])
    one, other = value(world, statement[1]), value(world, statement[2])
    if word == "atmost":
        return not under(other, one)
    if word == "below":
        return under(one, other)
    return one == other
