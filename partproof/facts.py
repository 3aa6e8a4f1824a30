"""Facts: what literals say of forms, and of terms of the kind thing."""

from partproof.forms import difference_by, negative
from partproof.terms import kind_of

# For an atom's word and a sign: the fact's word, and whether it speaks of the form times -1.
WORDS = {
    ("atmost", True): ("atmost", False),
    ("atmost", False): ("below", True),
    ("below", True): ("below", False),
    ("below", False): ("atmost", True),
    ("same", True): ("equal", False),
    ("same", False): ("unlike", False),
}


def fact_of(names, atom, sign):
    """The fact of a literal."""
    word, one, other = atom
    if kind_of(names, one) == "thing":
        return fact_of_things(one, other, sign)
    return fact_of_form(word, sign, difference_by(one, other, lambda base: base))


def fact_of_things(one, other, sign):
    """The fact of a literal of two terms of the kind thing, or of what stands for them."""
    return ("alike" if sign else "other", one, other)


def fact_of_form(word, sign, form):
    """The fact of a literal of which the form of one less other is told."""
    told, is_turned = WORDS[(word, sign)]
    return (told, negative(form) if is_turned else form)
