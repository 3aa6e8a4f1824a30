"""Forms: a constant and weights of bases, in the place of a term of the kind num."""

from partproof.fractions import ONE, ZERO, plus, quotient, times

MINUS_ONE = (-1, 1)


def form_of(term):
    """The form of a term of the kind num."""
    return form_by(term, lambda base: base)


def form_by(term, key_of):
    """The form of a term of the kind num, with a key of the asker's choice in the place of each base.

    All else here works with such forms, too: a base is nothing but a key.
    """
    word = term[0]
    if word == "number":
        return (term[1], {})
    if word == "weigh":
        return combined([form_by(term[2], key_of)], [term[1]])
    if word == "plus":
        return combined([form_by(part, key_of) for part in term[1]], [ONE] * len(term[1]))
    return (ZERO, {key_of(term): ONE})


def difference_by(one, other, key_of):
    """The form of one term less the other, with keys as above."""
    return combined([form_by(one, key_of), form_by(other, key_of)], [ONE, MINUS_ONE])


def negative(form):
    """A form times -1."""
    return combined([form], [MINUS_ONE])


def combined(forms, weights):
    """The form of the sum of forms, so many times each."""
    constant = ZERO
    sums = {}
    for (own, bases), weight in zip(forms, weights):
        constant = plus(constant, times(weight, own))
        for base, number in bases.items():
            sums[base] = plus(sums.get(base, ZERO), times(weight, number))
    return (constant, {base: number for base, number in sums.items() if number != ZERO})


def factor(one, other):
    """The fraction, not 0, by which one form comes of the other, or None."""
    # The form that is 0 without bases comes of itself by any factor, so one is agreed upon.
    if other == (ZERO, {}):
        return ONE if one == other else None
    ratio = leading_ratio(one, other)
    if ratio == ZERO or combined([other], [ratio]) != one:
        return None
    return ratio


def leading_ratio(one, other):
    """One form's number by the other's, at the other's first place that is not 0."""
    bases = list(other[1])
    if bases:
        return quotient(one[1].get(bases[0], ZERO), other[1][bases[0]])
    return quotient(one[0], other[0])


def scaled(form):
    """A tuple that forms over numbers share where one is a multiple of the other."""
    constant, weights = form
    rows = sorted(weights.items())
    # Any place that is not 0 will do, if it is the same one for both.
    leading = rows[0][1] if rows else (ONE if constant == ZERO else constant)
    return (quotient(constant, leading), tuple([(base, quotient(weight, leading)) for base, weight in rows]))
