"""Rows of wholes, their constants rounded."""

from partproof.forms import combined
from partproof.fractions import ONE, ceiling_of, common_divisor, floor_of, fraction, times
from partproof.tables import common_bottom


def whole_factor(numbers):
    """The fraction above 0 by which fractions become whole numbers that no number above 1 divides all."""
    bottom = common_bottom(numbers)
    divisor = 0
    for number in numbers:
        divisor = common_divisor(times(number, (bottom, 1))[0], divisor)
    return fraction(bottom, divisor)


def rounded(word, form):
    """The fact that a row shows where all its bases, one at least, are unknowns of wholes."""
    constant, weights = combined([form], [whole_factor(list(form[1].values()))])
    if word == "equal":
        return ("equal", (constant, weights)) if constant[1] == 1 else ("atmost", (ONE, {}))
    least = ceiling_of(constant) if word == "atmost" else floor_of(constant) + 1
    return ("atmost", ((least, 1), weights))
