"""Clashes: steps that show facts by the literals of a path, and what ends them."""

from partproof.arrays import hit, is_read_of_put, miss
from partproof.forms import combined, factor, leading_ratio, negative
from partproof.fractions import ONE, ZERO, is_fraction, is_whole, minus, under
from partproof.likeness import family_of, places_of
from partproof.rounds import rounded
from partproof.statements import is_atom
from partproof.tellings import tellings_of
from partproof.terms import kind_or_none, word_of

ROW_WORDS = ("atmost", "below", "equal")
LENGTHS = {"told": 3, "bound": 3, "sum": 2, "both": 3, "apart": 4, "round": 2, "like": 4, "chain": 4, "hit": 3,
           "miss": 3}


class Showing:
    """The facts that the steps of a clash have shown so far, by tellings; terms are known by numbers in them."""

    def __init__(self, names, tellings):
        self.names = names
        self.tellings = tellings
        self.facts = []

    def is_number(self, thing):
        """Whether a thing is the number of a step ahead."""
        return is_whole(thing) and 0 <= thing < len(self.facts)

    def cited(self, thing, words):
        """The fact of the step of a number, where it has one of the words, else None."""
        if not self.is_number(thing) or self.facts[thing][0] not in words:
            return None
        return self.facts[thing]

    def are_nums(self, one, other):
        """Whether two things are terms of the kind num."""
        return kind_or_none(self.names, one) == "num" and kind_or_none(self.names, other) == "num"

    def equality(self, one, other):
        """The fact that two terms of one kind, num or thing, have one value."""
        return self.tellings.fact(self.names, ("same", one, other), True)

    def is_needed_equal(self, one, other, cite):
        """Whether two terms of one kind are equal as they stand, or by the fact of the step cited."""
        if cite is not None and not self.is_number(cite):
            return False
        fact = self.equality(one, other)
        if fact[0] == "alike":
            return fact[1] == fact[2] or is_alike(self.cited(cite, ("alike",)), fact[1], fact[2])
        if is_nought(fact[1]):
            return True
        shown_fact = self.cited(cite, ("equal",))
        return shown_fact is not None and factor(fact[1], shown_fact[1]) is not None


def is_nought(form):
    """Whether a form is 0 without bases."""
    return form[0] == ZERO and not form[1]


def is_alike(fact, one, other):
    """Whether a fact, or None, speaks of two terms, in either order."""
    return fact is not None and fact[1:] in ((one, other), (other, one))


def shown_by_told(showing, step):
    """A literal of the path."""
    atom, sign = step[1:]
    # A truth equals a number for Python, and so do terms with truths in them: both are looked at ahead.
    if not isinstance(sign, bool) or not is_atom(showing.names, atom) or not showing.tellings.has(atom, sign):
        return None
    return showing.tellings.fact(showing.names, atom, sign)


def shown_by_bound(showing, step):
    """One of the bounds of a whole."""
    name, end = step[1:]
    bounds = showing.names.bounds(name)
    if bounds is None or end not in ("low", "high"):
        return None
    base = showing.tellings.number_of(("unknown", name))
    if end == "low":
        return ("atmost", ((bounds[0], 1), {base: (-1, 1)}))
    return ("atmost", ((-bounds[1], 1), {base: ONE}))


def shown_by_sum(showing, step):
    """A sum of rows, so many times each."""
    parts = step[1]
    if not isinstance(parts, tuple) or not parts or not all([is_part(showing, part) for part in parts]):
        return None
    facts = [showing.facts[number] for number, weight in parts]
    weights = [weight for number, weight in parts]
    if any([fact[0] == "below" and weight != ZERO for fact, weight in zip(facts, weights)]):
        word = "below"
    else:
        word = "equal" if all([fact[0] == "equal" for fact in facts]) else "atmost"
    return (word, combined([fact[1] for fact in facts], weights))


def is_part(showing, part):
    """Whether a thing is a part of a sum."""
    if not isinstance(part, tuple) or len(part) != 2 or not is_fraction(part[1]):
        return False
    fact = showing.cited(part[0], ROW_WORDS)
    return fact is not None and (fact[0] == "equal" or not under(part[1], ZERO))


def shown_by_both(showing, step):
    """A form that is at most 0 and at least 0."""
    one, other = [showing.cited(number, ("atmost", "equal")) for number in step[1:]]
    if one is None or other is None or other[1] != negative(one[1]):
        return None
    return ("equal", one[1])


def shown_by_apart(showing, step):
    """Two terms that a row keeps apart, or that are two numbers."""
    number, one, other = step[1:]
    if not showing.are_nums(one, other):
        return None
    form = showing.tellings.less(one, other)
    if number is None:
        return None if form[1] or is_nought(form) else ("unlike", form)
    row = showing.cited(number, ROW_WORDS)
    if row is None or not form[1] or not keeps_apart(row, form):
        return None
    return ("unlike", form)


def keeps_apart(row, form):
    """Whether a row's form is a multiple of a form that has a base, and a constant more by which it is never 0."""
    word, (constant, weights) = row
    ratio = leading_ratio((constant, weights), form)
    multiple = combined([form], [ratio])
    if ratio == ZERO or multiple[1] != weights:
        return False
    more = minus(constant, multiple[0])
    if word == "equal":
        return more != ZERO
    return under(ZERO, more) or word == "below" and more == ZERO


def shown_by_round(showing, step):
    """A row of wholes, its constant rounded."""
    row = showing.cited(step[1], ROW_WORDS)
    if row is None or not row[1][1] or not all([is_whole_base(showing, base) for base in row[1][1]]):
        return None
    return rounded(row[0], row[1])


def is_whole_base(showing, base):
    """Whether the base of a number is the unknown of a whole."""
    term = showing.tellings.numbering.terms[base]
    return term[0] == "unknown" and showing.names.bounds(term[1]) is not None


def shown_by_like(showing, step):
    """Two calls or reads at places that are equal."""
    one, other, cites = step[1:]
    if kind_or_none(showing.names, one) is None or kind_or_none(showing.names, other) is None:
        return None
    if family_of(one) is None or family_of(one) != family_of(other):
        return None
    if not isinstance(cites, tuple) or len(cites) != len(places_of(one)):
        return None
    rows = list(zip(places_of(one), places_of(other), cites))
    if not all([showing.is_needed_equal(place, other_place, cite) for place, other_place, cite in rows]):
        return None
    return showing.equality(one, other)


def shown_by_chain(showing, step):
    """Two things, by steps from one to the other."""
    cites, one, other = step[1:]
    if kind_or_none(showing.names, one) != "thing" or kind_or_none(showing.names, other) != "thing":
        return None
    if not isinstance(cites, tuple) or not cites:
        return None
    fact = showing.equality(one, other)
    at = fact[1]
    for cite in cites:
        link = showing.cited(cite, ("alike",))
        if link is None or at not in link[1:]:
            return None
        at = link[2] if at == link[1] else link[1]
    return fact if at == fact[2] else None


def is_good_read(showing, thing):
    """Whether a thing is a read of a put."""
    return kind_or_none(showing.names, thing) is not None and is_read_of_put(thing)


def shown_by_hit(showing, step):
    """A read of a put at the put's place."""
    read, cite = step[1:]
    if not is_good_read(showing, read) or not showing.is_needed_equal(read[2], read[1][2], cite):
        return None
    return showing.equality(read, hit(read))


def shown_by_miss(showing, step):
    """A read of a put at another place."""
    read, number = step[1:]
    if not is_good_read(showing, read):
        return None
    fact = showing.cited(number, ("unlike",))
    if fact is None or factor(showing.tellings.less(read[2], read[1][2]), fact[1]) is None:
        return None
    return showing.equality(read, miss(read))


DEEDS = {
    "told": shown_by_told,
    "bound": shown_by_bound,
    "sum": shown_by_sum,
    "both": shown_by_both,
    "apart": shown_by_apart,
    "round": shown_by_round,
    "like": shown_by_like,
    "chain": shown_by_chain,
    "hit": shown_by_hit,
    "miss": shown_by_miss,
}


def shown_by(showing, step):
    """The fact that a step shows, or None."""
    word = word_of(step)
    if word not in LENGTHS or len(step) != LENGTHS[word]:
        return None
    deed = DEEDS[word]
    return deed(showing, step)


def is_end(showing, step):
    """Whether a step ends a clash."""
    if word_of(step) != "end" or not all([showing.is_number(number) for number in step[1:]]):
        return False
    facts = [showing.facts[number] for number in step[1:]]
    if len(facts) == 1:
        return is_never_so(facts[0])
    return len(facts) == 2 and (are_against(facts[0], facts[1]) or are_against(facts[1], facts[0]))


def is_never_so(fact):
    """Whether a fact by itself is so in no world, as it stands."""
    word = fact[0]
    if word in ("alike", "other"):
        return word == "other" and fact[1] == fact[2]
    constant, weights = fact[1]
    if weights:
        return False
    if word == "atmost":
        return under(ZERO, constant)
    if word == "below":
        return not under(constant, ZERO)
    return (constant == ZERO) == (word == "unlike")


def are_against(one, other):
    """Whether a first fact says that something is equal or alike, and a second one that it is not."""
    if (one[0], other[0]) == ("equal", "unlike"):
        return factor(one[1], other[1]) is not None
    return (one[0], other[0]) == ("alike", "other") and is_alike(one, other[1], other[2])


def facts_shown(names, tellings, steps):
    """The facts, terms as numbers, that the steps but the last show by tellings, or None where it is no clash."""
    if not isinstance(steps, tuple) or not steps:
        return None
    showing = Showing(names, tellings)
    for step in steps[:-1]:
        fact = shown_by(showing, step)
        if fact is None:
            return None
        showing.facts.append(fact)
    return showing.facts if is_end(showing, steps[-1]) else None


def shown(names, path, steps):
    """A list of the facts that the steps but the last show, or None where it is no clash."""
    tellings = tellings_of(path)
    facts = facts_shown(names, tellings, steps)
    return None if facts is None else [tellings.named(fact) for fact in facts]


def is_clash(names, path, steps):
    """Whether a thing is a clash for a path."""
    return facts_shown(names, tellings_of(path), steps) is not None
