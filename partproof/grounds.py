"""Grounds: the names, and the terms that have come up, known by numbers."""

from partproof.facts import fact_of_form, fact_of_things
from partproof.forms import MINUS_ONE, combined, form_by
from partproof.fractions import ONE
from partproof.likeness import places_of
from partproof.numbering import Numbering


class Ground:
    """What all states of one settling share; what is reckoned of terms is kept, so that it is reckoned once."""

    def __init__(self, names):
        self.names = names
        self.numbering = Numbering()
        self.forms = {}
        self.places = {}
        self.gaps = {}
        self.literals = {}

    def number_of(self, term):
        """What a term is known by."""
        return self.numbering.number(term)

    def term_of(self, number):
        """The term of a number."""
        return self.numbering.terms[number]

    def key_of(self, atom):
        """What an atom is known by."""
        word, one, other = atom
        return (word, self.number_of(one), self.number_of(other))

    def is_thing(self, number):
        """Whether a term is of the kind thing."""
        term = self.term_of(number)
        if term[0] == "call":
            return self.names.function(term[1])[1] == "thing"
        return term[0] == "unknown" and self.names.kind(term[1]) == "thing"

    def is_of_whole(self, number):
        """Whether a term is the unknown of a whole."""
        term = self.term_of(number)
        return term[0] == "unknown" and self.names.bounds(term[1]) is not None

    def form(self, number):
        """The form of a term of the kind num, its bases as numbers."""
        if number not in self.forms:
            self.forms[number] = form_by(self.term_of(number), lambda base: self.number_of(base))
        return self.forms[number]

    def place_numbers(self, number):
        """The places of a call or a read, as a list of numbers."""
        if number not in self.places:
            self.places[number] = [self.number_of(place) for place in places_of(self.term_of(number))]
        return self.places[number]

    def less(self, one, other):
        """The form of one term less another, both known by numbers."""
        return combined([self.form(one), self.form(other)], [ONE, MINUS_ONE])

    def gap(self, number):
        """The form of the place of a read of a put, less the put's place."""
        if number not in self.gaps:
            read = self.term_of(number)
            self.gaps[number] = self.less(self.number_of(read[2]), self.number_of(read[1][2]))
        return self.gaps[number]

    def literal_fact(self, atom, sign):
        """The fact of a literal, terms as numbers."""
        key = (self.key_of(atom), sign)
        if key not in self.literals:
            self.literals[key] = self.new_fact(key[0], sign)
        return self.literals[key]

    def new_fact(self, key, sign):
        """The fact of a literal, by what its atom is known by."""
        word, one, other = key
        if self.is_thing(one):
            return fact_of_things(one, other, sign)
        return fact_of_form(word, sign, self.less(one, other))
