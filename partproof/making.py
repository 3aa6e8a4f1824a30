"""Worlds made of states in which nothing is left to tell, no read of a put is undecided and all wholes are settled."""

from partproof.fractions import ZERO, fraction
from partproof.likeness import family_of
from partproof.sums import value_at
from partproof.worlds import World


def world_of(state):
    """A world in which all literals of a state are so."""
    things = thing_values(state)
    attempt = 0
    # Whatever is not forced to be equal is unlike by all shifts but a few, so one that will do comes.
    while True:
        point = shifted_point(state.holding.table, attempt)
        tables = tables_by(state, point, things)
        if tables is not None:
            return made(state.ground, point, things, tables)
        attempt += 1


def thing_values(state):
    """A whole number for each wanted thing, one for those that are alike."""
    firsts = state.first_things()
    numbers = {}
    told = {}
    for number in state.wanted:
        if state.ground.is_thing(number):
            first = firsts.get(number, number)
            told[number] = numbers.setdefault(first, len(numbers))
    return told


def shifted_point(table, attempt):
    """A point of a table's rows, at first a plain one, then ones that keep off more and more."""
    bottom = 1
    # Slacks that are shifted by little enough break no row.
    while True:
        point = table.point_off(shifts_of(table, attempt, bottom))
        if point is not None:
            return point
        bottom = bottom * bottom * 2


def shifts_of(table, attempt, bottom):
    """Values for the columns that may be chosen: bases at will, slacks less than 1, divided by a bottom."""
    if attempt == 0:
        return {}
    shifts = {}
    for at, column in enumerate(table.free_bases()):
        shifts[column] = (power(at + 2, attempt), 1)
    slacks = table.free_slacks()
    for at, column in enumerate(slacks):
        shifts[column] = fraction(power(at + 2, attempt), bottom * power(len(slacks) + 2, attempt))
    return shifts


def power(number, many):
    """A number times itself, so many times in all."""
    told = 1
    for turn in range(many):
        told *= number
    return told


def tables_by(state, point, things):
    """The tables of functions and arrays, as a dict from families to dicts; None where two values meet by chance."""
    for entry, form in state.unlikes:
        if value_at(form, point) == ZERO:
            return None
    tables = {}
    for number in state.wanted:
        family = family_of(state.ground.term_of(number))
        if family is None:
            continue
        table = tables.setdefault(family, {})
        key = tuple([value_by(state.ground, point, things, place) for place in state.ground.place_numbers(number)])
        told = value_by(state.ground, point, things, number)
        if table.setdefault(key, told) != told:
            return None
    return tables


def value_by(ground, point, things, number):
    """The value of a wanted thing, or of a term of the kind num by a point."""
    if ground.is_thing(number):
        return things[number]
    return value_at(ground.form(number), point)


def made(ground, point, things, tables):
    """The world of a point, things and tables, with plain values for all else."""
    names = ground.names
    numbers = {name: ZERO for name in names.all_numbers()}
    numbers.update({name: (low, 1) for name, low, high in names.all_wholes()})
    numbers.update({name: told for name, told in named(ground, point).items() if name in numbers})
    values = {name: 0 for name in names.all_things()}
    values.update(named(ground, things))
    functions = {}
    for name, kinds, kind in names.all_functions():
        functions[name] = (tables.get(("call", name), {}), ZERO if kind == "num" else 0)
    arrays = {}
    for name in names.all_arrays():
        cells = {key[0]: told for key, told in tables.get(("read", name), {}).items()}
        arrays[name] = (cells, ZERO)
    return World(numbers, values, functions, arrays)


def named(ground, told):
    """Values of unknowns by their names; what is known by another term is left out."""
    terms = {number: ground.term_of(number) for number in told}
    return {term[1]: told[number] for number, term in terms.items() if term[0] == "unknown"}
