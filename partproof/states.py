"""States: literals that are told, and what the parts have told one another of them."""

from partproof.arrays import hit, is_read_of_put, miss
from partproof.forms import factor, negative, scaled
from partproof.fractions import ONE, ZERO, ceiling_of, floor_of, fraction, minus, quotient, under
from partproof.holdings import Holding
from partproof.ledgers import steps_to
from partproof.likeness import family_of, marks_between, reached_from, ways_of_numbers
from partproof.rounds import rounded
from partproof.tables import CONSTANT


class State:
    """Literals of a ground's names; terms are known by numbers, and what is shown stands in a ledger."""

    def __init__(self, ground):
        self.ground = ground
        self.ledger = []
        self.holding = Holding()
        # Facts of the words unlike, other and alike, each behind the number of its step.
        self.unlikes = []
        self.unlike_entries = {}
        self.others = []
        self.links = []
        # The bases and things that need a value, and the reads of puts among them that are neither hit nor miss yet.
        self.wanted = {}
        self.undecided = {}
        # For each wanted whole the tuple (low, high) within which rows of it alone keep it.
        self.ranges = {}
        self.extent = None

    def copied(self):
        """A state of the same that goes its own ways."""
        state = State(self.ground)
        state.ledger = list(self.ledger)
        state.holding = self.holding.copied()
        state.unlikes = list(self.unlikes)
        state.unlike_entries = dict(self.unlike_entries)
        state.others = list(self.others)
        state.links = list(self.links)
        state.wanted = dict(self.wanted)
        state.undecided = dict(self.undecided)
        state.ranges = dict(self.ranges)
        state.extent = self.extent
        return state

    def enter(self, step):
        """Puts a step into the ledger and tells its number."""
        self.ledger.append(step)
        return len(self.ledger) - 1

    def tell(self, atom, sign):
        """Takes a literal in."""
        self.take(self.ground.literal_fact(atom, sign), self.enter(("told", atom, sign)))

    def take(self, fact, entry):
        """Takes a fact in that a step of the ledger shows."""
        if fact[0] in ("alike", "other"):
            rows = self.links if fact[0] == "alike" else self.others
            rows.append((entry, fact[1], fact[2]))
            self.want(fact[1])
            self.want(fact[2])
        elif fact[0] == "unlike":
            self.unlikes.append((entry, fact[1]))
            self.unlike_entries.setdefault(scaled(fact[1]), entry)
            self.want_bases(fact[1])
        else:
            self.take_row(fact, entry)

    def take_row(self, row, entry):
        """Takes a row in, rounded where it speaks of wholes alone and that says more."""
        bases = row[1][1]
        if bases and all([self.ground.is_of_whole(base) for base in bases]):
            told = rounded(row[0], row[1])
            if told[0] != row[0] or factor(told[1], row[1]) is None:
                row, entry = told, self.enter(("round", entry))
        self.holding.hold(row[0], row[1], entry)
        self.want_bases(row[1])
        if len(bases) == 1 and row[0] != "equal":
            self.narrow(row[1])

    def narrow(self, form):
        """Narrows the range of a whole by a row of it alone."""
        constant, weights = form
        for base, weight in weights.items():
            if base in self.ranges:
                low, high = self.ranges[base]
                end = quotient(constant, minus(ZERO, weight))
                if under(weight, ZERO):
                    self.ranges[base] = (max(low, ceiling_of(end)), high)
                else:
                    self.ranges[base] = (low, min(high, floor_of(end)))

    def want_bases(self, form):
        """Wants all bases of a form."""
        for base in form[1]:
            self.want(base)

    def want(self, number):
        """Takes a base, or a term of the kind thing, among those that need a value; then those it hangs on."""
        if number in self.wanted:
            return
        self.wanted[number] = True
        term = self.ground.term_of(number)
        if self.ground.is_of_whole(number):
            self.hold_bounds(term[1], number)
        if is_read_of_put(term):
            self.undecided[number] = True
            self.want_place(self.ground.number_of(term[1][2]))
        if term[0] in ("call", "read"):
            for place in self.ground.place_numbers(number):
                self.want_place(place)

    def want_place(self, number):
        """Wants what the value of a place hangs on."""
        if self.ground.is_thing(number):
            self.want(number)
        else:
            self.want_bases(self.ground.form(number))

    def hold_bounds(self, name, number):
        """Holds the rows of the bounds of a whole."""
        low, high = self.ground.names.bounds(name)
        self.ranges[number] = (low, high)
        self.holding.hold("atmost", ((low, 1), {number: (-1, 1)}), self.enter(("bound", name, "low")))
        self.holding.hold("atmost", ((-high, 1), {number: ONE}), self.enter(("bound", name, "high")))

    def close(self):
        """Lets the parts tell one another all they can; tells the steps of a clash, or None."""
        while True:
            weights = self.holding.clash()
            if weights is not None:
                end = self.sum_of(weights)
                return steps_to(self.ledger, ("end", end))
            if self.extent == self.extent_now():
                return None
            self.extent = self.extent_now()
            end = self.end_of_unlikes() or self.end_of_others() or self.end_of_wholes()
            if end is not None:
                return steps_to(self.ledger, end)
            self.tell_likes()
            self.tell_reads()

    def extent_now(self):
        """By what it is known whether there may be anything new to tell."""
        holding = self.holding
        many_rows = len(holding.rows) if self.undecided else 0
        return (holding.many_equal, many_rows, len(self.unlikes), len(self.others), len(self.links), len(self.wanted))

    def equality(self, form):
        """The number of a step by which a form is 0, which is forced; None where it is so by itself."""
        if not form[1]:
            return None
        weights = self.holding.weights_of(form)
        if not self.holding.are_equal_by_word(weights):
            sides = [self.holding.without_debts(weights)]
            sides.append(self.holding.without_debts({row: minus(ZERO, weight) for row, weight in weights.items()}))
            return self.enter(("both",) + tuple([self.sum_of(side) for side in sides]))
        return self.sum_of(weights)

    def sum_of(self, weights):
        """The number of a step that shows a sum of rows."""
        parts = self.holding.parts_of_sum(weights)
        if len(parts) == 1 and parts[0][1] == ONE:
            return parts[0][0]
        return self.enter(("sum", parts))

    def end_of_unlikes(self):
        """The end of a clash by a form that is forced to be 0 and is not to be, or None."""
        for entry, form in self.unlikes:
            if self.holding.is_nought(form):
                cite = self.equality(form)
                return ("end", entry) if cite is None else ("end", cite, entry)
        return None

    def end_of_others(self):
        """The end of a clash by two things that are one and are not to be, or None."""
        firsts = self.first_things()
        for entry, one, other in self.others:
            if one == other:
                return ("end", entry)
            if firsts.get(one, one) == firsts.get(other, other):
                return ("end", self.likeness(one, other), entry)
        return None

    def end_of_wholes(self):
        """The end of a clash by a whole that is forced to be a number that is not whole, or None."""
        for number in self.ranges:
            told = self.settled_value(number)
            if told is not None and told[1] != 1:
                equal = self.equality((minus(ZERO, told), {number: ONE}))
                return ("end", self.enter(("round", equal)))
        return None

    def settled_value(self, number):
        """The value that a base is forced to have, or None."""
        bottom, weights = self.holding.loose_part(self.ground.form(number))
        if weights == ():
            return ZERO
        # The column of the constant comes first, and it alone has no other by it.
        return fraction(weights[0][1], bottom) if len(weights) == 1 and weights[0][0] == CONSTANT else None

    def first_things(self):
        """For each thing that a link speaks of one thing of those to which links lead."""
        ways = ways_of_numbers(self.links)
        firsts = {}
        for start in ways:
            if start not in firsts:
                firsts.update({number: start for number in reached_from(ways, start)})
        return firsts

    def likeness(self, one, other):
        """The number of a step by which two things, to which links lead, are alike; None for the same one."""
        if one == other:
            return None
        marks = marks_between(ways_of_numbers(self.links), one, other)
        if len(marks) == 1:
            return marks[0]
        return self.enter(("chain", tuple(marks), self.ground.term_of(one), self.ground.term_of(other)))

    def tell_likes(self):
        """The functions' part: calls and reads of unknown arrays at equal places are told equal or alike."""
        firsts = self.first_things()
        groups = {}
        for number in list(self.wanted):
            family = family_of(self.ground.term_of(number))
            if family is None:
                continue
            key = (family, tuple([self.sameness(firsts, place) for place in self.ground.place_numbers(number)]))
            first = groups.setdefault(key, number)
            if first != number and self.sameness(firsts, first) != self.sameness(firsts, number):
                self.tell_like(first, number)

    def sameness(self, firsts, number):
        """What two terms share just where they are forced to be equal or alike."""
        if self.ground.is_thing(number):
            return firsts.get(number, number)
        return self.holding.loose_part(self.ground.form(number))

    def tell_like(self, one, other):
        """Tells that two calls or reads at equal places are equal or alike."""
        places, others = self.ground.place_numbers(one), self.ground.place_numbers(other)
        cites = tuple([self.cite(place, other_place) for place, other_place in zip(places, others)])
        first, second = self.ground.term_of(one), self.ground.term_of(other)
        entry = self.enter(("like", first, second, cites))
        self.take(self.ground.literal_fact(("same", first, second), True), entry)

    def cite(self, one, other):
        """The number of a step by which two places are equal or alike, None where none is needed."""
        if self.ground.is_thing(one):
            return self.likeness(one, other)
        return self.equality(self.ground.less(one, other))

    def tell_reads(self):
        """The arrays' part: reads of puts are told equal to their hits or misses, where the places tell which."""
        for number in list(self.undecided):
            read = self.ground.term_of(number)
            form = self.ground.gap(number)
            if self.holding.is_nought(form):
                self.tell_read(number, hit(read), ("hit", read, self.equality(form)))
                continue
            entry = self.unlikeness(form, read)
            if entry is not None:
                self.tell_read(number, miss(read), ("miss", read, entry))

    def tell_read(self, number, told, step):
        """Tells what a read of a put is equal to, by a step."""
        del self.undecided[number]
        self.take(self.ground.literal_fact(("same", self.ground.term_of(number), told), True), self.enter(step))

    def unlikeness(self, form, read):
        """The number of a step by which a read's place and its put's are not equal, or None."""
        entry = self.unlike_entries.get(scaled(form))
        if entry is not None:
            return entry
        if not form[1]:
            return self.enter(("apart", None, read[2], read[1][2]))
        weights = self.apart(form)
        if weights is None:
            return None
        return self.enter(("apart", self.sum_of(weights), read[2], read[1][2]))

    def apart(self, form):
        """Weights of rows of which the sum keeps a form, or it times -1, below 0; None where it may be 0."""
        sign = self.holding.sign(form)
        if sign == 0:
            return None
        tried = self.holding.copied()
        tried.hold("atmost", negative(form) if sign < 0 else form, None)
        weights = tried.clash()
        # Rows that were told in this round may clash by themselves; the next round tells of it.
        if weights is None or len(self.holding.rows) not in weights:
            return None
        many = weights.pop(len(self.holding.rows))
        return {row: quotient(weight, many) for row, weight in weights.items()}
