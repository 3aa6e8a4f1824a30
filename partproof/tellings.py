"""Tellings: the literals of a path, one behind another, and what they say of atoms."""

from partproof.facts import fact_of_form, fact_of_things
from partproof.forms import difference_by
from partproof.numbering import Numbering
from partproof.terms import kind_of


class Tellings:
    """Literals that are told and taken back from behind.

    Terms, and atoms by the terms in them, are known by numbers: they stand deeper
    than keys may. So the bases of forms are numbers here, too.
    """

    def __init__(self):
        self.numbering = Numbering()
        # The keys of the literals' atoms, and for each key its signs, both in the order in which they were told.
        self.trail = []
        self.signs = {}

    def key_of(self, atom):
        """What an atom is known by."""
        word, one, other = atom
        return (word, self.number_of(one), self.number_of(other))

    def number_of(self, term):
        """What a term is known by."""
        return self.numbering.number(term)

    def tell(self, atom, sign):
        """Puts a literal behind the others."""
        key = self.key_of(atom)
        self.trail.append(key)
        self.signs.setdefault(key, []).append(sign)

    def back_to(self, many):
        """Takes literals back until so many are left."""
        while len(self.trail) > many:
            self.signs[self.trail.pop()].pop()

    def many_told(self):
        """How many literals stand."""
        return len(self.trail)

    def has(self, atom, sign):
        """Whether a literal is among those told."""
        return sign in self.signs.get(self.key_of(atom), [])

    def truth_of(self, key):
        """What the first literal with the atom of a key says of it, or None."""
        signs = self.signs.get(key)
        return signs[0] if signs else None

    def less(self, one, other):
        """The form of one term of the kind num less the other."""
        return difference_by(one, other, lambda base: self.number_of(base))

    def fact(self, names, atom, sign):
        """The fact of a literal of the names."""
        word, one, other = atom
        if kind_of(names, one) == "thing":
            return fact_of_things(self.number_of(one), self.number_of(other), sign)
        return fact_of_form(word, sign, self.less(one, other))

    def named(self, fact):
        """A fact with the terms in the place of their numbers."""
        terms = self.numbering.terms
        if fact[0] in ("alike", "other"):
            return (fact[0], terms[fact[1]], terms[fact[2]])
        constant, weights = fact[1]
        return (fact[0], (constant, {terms[base]: weight for base, weight in weights.items()}))


def tellings_of(path):
    """The tellings of a tuple of literals."""
    tellings = Tellings()
    for atom, sign in path:
        tellings.tell(atom, sign)
    return tellings
