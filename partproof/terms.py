"""Terms and their kinds."""

from partproof.errors import BadTerm
from partproof.fractions import is_fraction
from partproof.numbering import Numbering

DEEPEST = 12
LENGTHS = {"number": 2, "unknown": 2, "weigh": 3, "plus": 2, "call": 3, "read": 3, "put": 4}


def word_of(thing):
    """The text that a tuple begins with, or None of all else."""
    if not isinstance(thing, tuple) or not thing or not isinstance(thing[0], str):
        return None
    return thing[0]


def kind_of(names, term):
    """The kind of a term of the names."""
    return kind_within(names, term, DEEPEST)


def kind_or_none(names, thing):
    """The kind of a term of the names, or None of all else."""
    try:
        return kind_of(names, thing)
    except BadTerm:
        return None


def kind_within(names, term, room):
    """The kind of a term that may be as deep as room tells."""
    word = word_of(term)
    # Room is asked before the term is looked into, so that however deep a term is, the way into it is short.
    if room < 1 or word not in LENGTHS or len(term) != LENGTHS[word]:
        raise BadTerm("it is no term, or too deep")
    deed = DEEDS[word]
    return deed(names, term, room - 1)


def check_kinds(names, terms, kinds, room):
    """Refuses what is no tuple of terms of just these kinds."""
    if not isinstance(terms, tuple) or len(terms) != len(kinds):
        raise BadTerm("there are too few or too many terms")
    for term, kind in zip(terms, kinds):
        if kind_within(names, term, room) != kind:
            raise BadTerm("a term is of another kind")


def kind_of_number(names, term, room):
    """The kind of a number; it has no terms in it, so names and room are not asked."""
    if not is_fraction(term[1]):
        raise BadTerm("a number bears a fraction")
    return "num"


def kind_of_unknown(names, term, room):
    """The kind of an unknown."""
    kind = names.kind(term[1])
    if kind is None:
        raise BadTerm("there is no such unknown")
    return kind


def kind_of_weigh(names, term, room):
    """The kind of so many times a term."""
    if not is_fraction(term[1]):
        raise BadTerm("a term is weighed by a fraction")
    check_kinds(names, term[2:], ("num",), room)
    return "num"


def kind_of_plus(names, term, room):
    """The kind of a sum."""
    if not isinstance(term[1], tuple):
        raise BadTerm("a sum is one of a tuple of terms")
    check_kinds(names, term[1], ("num",) * len(term[1]), room)
    return "num"


def kind_of_call(names, term, room):
    """The kind that a function tells."""
    function = names.function(term[1])
    if function is None:
        raise BadTerm("there is no such function")
    kinds, kind = function
    check_kinds(names, term[2], kinds, room)
    return kind


def kind_of_read(names, term, room):
    """The kind of what stands in an array."""
    check_kinds(names, term[1:], ("array", "num"), room)
    return "num"


def kind_of_put(names, term, room):
    """The kind of an array that was put into."""
    check_kinds(names, term[1:], ("array", "num", "num"), room)
    return "array"


DEEDS = {
    "number": kind_of_number,
    "unknown": kind_of_unknown,
    "weigh": kind_of_weigh,
    "plus": kind_of_plus,
    "call": kind_of_call,
    "read": kind_of_read,
    "put": kind_of_put,
}


def parts_of(term):
    """The parts of a term, each once, inner ones ahead; the term itself is the last."""
    numbering = Numbering()
    numbering.number(term)
    return numbering.terms
