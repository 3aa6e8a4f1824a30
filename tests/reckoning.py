"""Forms reckoned with Python's own fractions, to check what the program tells of them."""

from fractions import Fraction

from samples import unknown


def form(constant, **weights):
    """A form of fractions or whole numbers, its bases the unknowns so called."""
    return (pair(constant), {unknown(name): pair(weight) for name, weight in weights.items()})


def pair(number):
    number = Fraction(number)
    return (number.numerator, number.denominator)


def value_of(own, point):
    """The value of a form by a point, reckoned with Python's own fractions."""
    return Fraction(*own[0]) + sum(Fraction(*weight) * Fraction(*point[base]) for base, weight in own[1].items())


def times(own, number):
    return (pair(Fraction(*own[0]) * number), {base: pair(Fraction(*weight) * number)
                                              for base, weight in own[1].items()})


def summed(rows, weights):
    """The sum of the rows' forms, so many times each: the constant, and the weights that are not 0."""
    constant, sums = Fraction(0), {}
    for (word, own), weight in zip(rows, weights):
        constant += Fraction(*weight) * Fraction(*own[0])
        for base, number in own[1].items():
            sums[base] = sums.get(base, 0) + Fraction(*weight) * Fraction(*number)
    return constant, {base: number for base, number in sums.items() if number != 0}


def bases_of(forms):
    return {base for own in forms for base in own[1]}
