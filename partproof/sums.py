"""Rows of forms: whether they have a point, what they force, and points that keep off forms."""

from partproof.forms import negative
from partproof.fractions import ZERO, minus, plus, quotient, times
from partproof.numbering import Numbering
from partproof.tables import Table


def numbered(numbering, form):
    """A form with numbers in the place of its bases, which may stand deeper than keys may."""
    constant, weights = form
    return (constant, {numbering.number(base): weight for base, weight in weights.items()})


def table_of(numbering, rows):
    """A table of rows, its bases numbered."""
    table = Table()
    for word, form in rows:
        table.lay(word, numbered(numbering, form))
    return table


def named(numbering, point):
    """A point with the bases in the place of their numbers."""
    return {numbering.terms[number]: told for number, told in point.items()}


def settled(rows):
    """A point of rows, or weights that show that they have none."""
    numbering = Numbering()
    table = table_of(numbering, rows)
    weights = table.settle()
    if weights is not None:
        return ("weights", [(number, 1) for number in weights])
    return ("point", named(numbering, table.point()))


def value_at(form, point):
    """The value of a form by a point; bases that it has not count as 0."""
    constant, weights = form
    total = constant
    for base, weight in weights.items():
        total = plus(total, times(weight, point.get(base, ZERO)))
    return total


def forced(rows, form):
    """Two lists of weights that show that a form and the form times -1 are at most 0 by each point, or None."""
    numbering = Numbering()
    table = table_of(numbering, rows)
    wanted = numbered(numbering, form)
    if table.settle() is not None or value_at(wanted, table.point()) != ZERO:
        return None
    upper = weights_above(table, wanted)
    if upper is None:
        return None
    lower = weights_above(table, negative(wanted))
    return None if lower is None else (upper, lower)


def weights_above(table, form):
    """Weights of a table's rows of which the sum is the form and a constant of 0 or more, or None."""
    numbers = settled_with(table, negative(form))[1]
    if numbers is None:
        return None
    # The rows alone have a point, so the last one, that the form is above 0, is needed for the clash.
    return [quotient((number, 1), (numbers[-1], 1)) for number in numbers[:-1]]


def settled_with(table, form):
    """A copy of a table with one more row, that the form is below 0, and what comes of settling it."""
    tried = table.copied()
    tried.lay("below", form)
    return (tried, tried.settle())


def spread(rows, forms):
    """A point of rows by which none of the forms, of which none is forced, is 0."""
    numbering = Numbering()
    table = table_of(numbering, rows)
    wanted = [numbered(numbering, form) for form in forms]
    table.settle()
    point = table.point()
    for constant, weights in wanted:
        point.update({base: ZERO for base in weights if base not in point})
    for form in wanted:
        if value_at(form, point) == ZERO:
            point = between(point, point_off(table, form), wanted)
    return named(numbering, point)


def point_off(table, form):
    """A point of a table's rows by which a form that is not forced is not 0."""
    for side in (form, negative(form)):
        tried, weights = settled_with(table, side)
        if weights is None:
            return tried.point()
    return table.point()


def between(point, other, forms):
    """A point between two by which no form is 0 that is not 0 by the first; where one is 0 by it, the second tells.

    All rows hold there, since they hold by both.
    """
    kept = [form for form in forms if value_at(form, point) != ZERO]
    share = 2
    # Each form is 0 at one place on the way at the most, so a share that will do comes soon.
    while True:
        told = on_the_way(point, other, share)
        if all([value_at(form, told) != ZERO for form in kept]):
            return told
        share += 1


def on_the_way(point, other, share):
    """The point on the way from one to the other when one part of so many is gone."""
    told = {}
    for base, start in point.items():
        told[base] = plus(start, times((1, share), minus(other.get(base, ZERO), start)))
    return told
