"""Holdings: the rows that the sums' part holds, each with the step that shows it.

Rows of the word atmost are laid into the table as below ones: where no point keeps all of them
below, some are always equal, and the weights that show it, a proof, make equal rows of these.
So the points of the table keep off all that is not forced, and a form is forced to be 0 where it
is a sum of equal rows.
"""

from partproof.fractions import ZERO, minus, plus, quotient, times, under
from partproof.tables import Table, sign_of


def added(weights, others, many):
    """The sum of two dicts of weights, the second so many times; without weights that are 0."""
    sums = dict(weights)
    for row, weight in others.items():
        sums[row] = plus(sums.get(row, ZERO), times(many, weight))
    return {row: weight for row, weight in sums.items() if weight != ZERO}


class Holding:
    """Rows over bases that are numbers of terms."""

    def __init__(self):
        self.table = Table()
        # For each row its own word, the number of its step and its constant.
        self.rows = []
        self.row_numbers = {}
        # Weights of rows that add up to 0, each with a list of the rows that are shown equal by it.
        self.proofs = []
        self.many_equal = 0

    def copied(self):
        """A holding of the same rows that goes its own ways."""
        holding = Holding()
        holding.table = self.table.copied()
        holding.rows = list(self.rows)
        holding.row_numbers = dict(self.row_numbers)
        holding.proofs = list(self.proofs)
        holding.many_equal = self.many_equal
        return holding

    def hold(self, word, form, entry):
        """Puts a row behind the others."""
        self.table.lay("below" if word == "atmost" else word, form)
        self.row_numbers[self.table.row_columns[-1]] = len(self.rows)
        self.rows.append((word, entry, form[0]))
        if word == "equal":
            self.many_equal += 1

    def clash(self):
        """Weights of rows that show that they have no point, as a dict, or None."""
        while True:
            numbers = self.table.settle()
            if numbers is None:
                self.table.rest_fixed()
                return None
            weights = {row: (number, 1) for row, number in enumerate(numbers) if number != 0}
            if self.is_against(weights):
                return self.without_debts(weights)
            self.prove(weights)

    def is_against(self, weights):
        """Whether weights, by which rows are no point's if all are kept below, show it of the rows themselves."""
        constant = ZERO
        for row, weight in weights.items():
            constant = plus(constant, times(weight, self.rows[row][2]))
        return constant != ZERO or any([self.rows[row][0] == "below" for row in weights])

    def prove(self, weights):
        """Makes equal rows of those that weights, which add up to 0, show to be equal."""
        rows = [row for row in weights if not self.table.is_fixed(self.table.row_columns[row])]
        self.table.loosen(rows)
        self.proofs.append((weights, rows))
        self.many_equal += len(rows)

    def without_debts(self, weights):
        """Weights of the same sum, below 0 at most where a row is equal by its own word."""
        # A proof bears rows that are equal by earlier ones, so the last one comes first.
        for proof, rows in reversed(self.proofs):
            most = ZERO
            for row in rows:
                need = quotient(minus(ZERO, weights.get(row, ZERO)), proof[row])
                most = need if under(most, need) else most
            if most != ZERO:
                weights = added(weights, proof, most)
        return weights

    def loose_part(self, form):
        """What a form is besides the equal rows: forms are equal by the rows where these are."""
        return self.table.loose_part(self.table.line_of(form))

    def is_nought(self, form):
        """Whether a form is forced to be 0."""
        return self.loose_part(form)[1] == ()

    def sign(self, form):
        """Below 0, 0 or above 0, as a form is by one point of the rows."""
        return sign_of(self.table.line_of(form))

    def weights_of(self, form):
        """Weights of equal rows, as a dict, of which the sum is a form that is forced to be 0."""
        bottom, line = self.table.line_of(form)
        # A slack is its row's form times -1.
        return {self.row_numbers[column]: quotient((-number, 1), (bottom, 1)) for column, number in line.items()}

    def are_equal_by_word(self, weights):
        """Whether all rows of weights are equal by their own words."""
        return all([self.rows[row][0] == "equal" for row in weights])

    def parts_of_sum(self, weights):
        """The parts of a sum step of rows, as a tuple."""
        return tuple([(self.rows[row][1], weight) for row, weight in sorted(weights.items())])
