"""Forms: a constant and weights of bases, in the place of a term of the kind num."""

from partproof.fractions import ONE, ZERO, fraction, plus, times


def form_of(term):
    """The form of a term of the kind num."""
    word = term[0]
    if word == "number":
        return (term[1], {})
    if word == "weigh":
        return combined([form_of(term[2])], [term[1]])
    if word == "plus":
        return combined([form_of(part) for part in term[1]], [ONE] * len(term[1]))
    return (ZERO, {term: ONE})


def combined(forms, weights):
    """The form of the sum of forms, so many times each."""
    constant = ZERO
    sums = {}
    for (own, bases), weight in zip(forms, weights):
        constant = plus(constant, times(weight, own))
        for base, number in bases.items():
            sums[base] = plus(sums.get(base, ZERO), times(weight, number))
    return (constant, {base: number for base, number in sums.items() if number != ZERO})


def factor(one, other):
    """The fraction, not 0, by which one form comes of the other, or None."""
    # The form that is 0 without bases comes of itself by any factor, so one is agreed upon.
    if other == (ZERO, {}):
        return ONE if one == other else None
    ratio = leading_ratio(one, other)
    if ratio == ZERO or combined([other], [ratio]) != one:
        return None
    return ratio


def leading_ratio(one, other):
    """One form's number by the other's, at the other's first place that is not 0."""
    bases = list(other[1])
    if bases:
        return quotient(one[1].get(bases[0], ZERO), other[1][bases[0]])
    return quotient(one[0], other[0])


def quotient(one, other):
    """One fraction divided by the other, which is not 0."""
    return fraction(one[0] * other[1], one[1] * other[0])
