"""Tables, by which it is settled whether rows have a point.

For a row with the form f the slack is -f, and -f less the speck where the row is below:
a row holds where its slack is 0 or more, an equal row where it is 0. The speck stands for
a number above 0 that is as small as need be.

A column is the constant 1, the speck, the value of a base or the slack of a row. A line of
a column is a tuple (bottom, weights): bottom, above 0, times the column is the sum of the
columns in the dict weights, so many times each. All these are whole numbers, since they are
quicker to reckon with than fractions.

The columns without a line count as 0. Lines never change, they are replaced: so a copy of a
table may share them.
"""

from partproof.fractions import ONE, ZERO, common_divisor, fraction, minus, plus, quotient, times, under

CONSTANT = 0
SPECK = 1
FIRST_FREE = 2
# Quick choices may come back to the same lines for ever. Behind so many turns always the first
# column of those that will do is chosen: so no lines come again, and it ends.
QUICK_TURNS = 1000


def common_bottom(numbers):
    """The least whole number above 0 by which all fractions of a list become whole."""
    bottom = 1
    for number in numbers:
        bottom = bottom // common_divisor(bottom, number[1]) * number[1]
    return bottom


def reduced(bottom, weights):
    """A line, divided by what divides all of it, without the weights that are 0."""
    divisor = bottom
    for number in weights.values():
        if divisor == 1:
            break
        divisor = common_divisor(divisor, number)
    return (bottom // divisor, {column: number // divisor for column, number in weights.items() if number != 0})


def replaced(line, column, own):
    """A line in which a column is replaced by what the column's own line says of it."""
    bottom, weights = line
    divisor = common_divisor(weights[column], own[0])
    many, own_many = own[0] // divisor, weights[column] // divisor
    sums = {key: number * many for key, number in weights.items() if key != column}
    for key, number in own[1].items():
        sums[key] = sums.get(key, 0) + number * own_many
    return reduced(bottom * many, sums)


def turned(line, column, told):
    """The line of a column that stands in the line of the column told."""
    bottom, weights = line
    many = weights[column]
    # A bottom is above 0, so the sign of the weight goes to the others.
    sign = 1 if many > 0 else -1
    others = {key: -sign * number for key, number in weights.items() if key != column}
    others[told] = sign * bottom
    return (sign * many, others)


def sign_of(line):
    """Below 0, 0 or above 0, as the value of a line's column is: the speck only tells where the constant is 0."""
    weights = line[1]
    return weights.get(CONSTANT, 0) or weights.get(SPECK, 0)


def loosened(line, more):
    """A line with so many specks more."""
    if more == 0:
        return line
    bottom, weights = line
    sums = dict(weights)
    sums[SPECK] = sums.get(SPECK, 0) + more
    return reduced(bottom, sums)


def value_by(line, values):
    """The value of a line's column by the values of the columns in it, 0 where there is none."""
    bottom, weights = line
    total = ZERO
    for column, number in weights.items():
        total = plus(total, times((number, 1), values.get(column, ZERO)))
    return quotient(total, (bottom, 1))


class Table:
    """Rows over bases that are keys of any kind."""

    def __init__(self):
        self.many_columns = FIRST_FREE
        self.base_columns = {}
        self.row_columns = []
        self.fixed = {}
        # Each base that has a line, in the order in which they came: it bears no base that has come ahead.
        self.base_lines = []
        # The lines of slacks: they bear no bases, and no slack that has a line itself.
        self.slack_lines = {}

    def copied(self):
        """A table of the same rows that goes its own ways."""
        table = Table()
        table.many_columns = self.many_columns
        table.base_columns = dict(self.base_columns)
        table.row_columns = list(self.row_columns)
        table.fixed = dict(self.fixed)
        table.base_lines = list(self.base_lines)
        table.slack_lines = dict(self.slack_lines)
        return table

    def new_column(self):
        """The number of a new column."""
        self.many_columns += 1
        return self.many_columns - 1

    def lay(self, word, form):
        """Puts a row behind the others."""
        line = self.without_lines(self.slack_line(word, form))
        column = self.new_column()
        self.row_columns.append(column)
        self.fixed[column] = word == "equal"
        bases = [key for key in line[1] if key >= FIRST_FREE and key not in self.fixed]
        if bases:
            # Nothing bounds a base, so it takes whatever value makes this slack 0.
            self.base_lines.append((bases[0], turned(line, bases[0], column)))
        else:
            self.slack_lines[column] = line

    def slack_line(self, word, form):
        """The line of a row's slack, over bases."""
        bottom, line = self.base_line(form)
        slack = {column: -number for column, number in line.items()}
        slack[SPECK] = -bottom if word == "below" else 0
        return reduced(bottom, slack)

    def base_line(self, form):
        """The line of a form, over bases."""
        constant, weights = form
        bottom = common_bottom([constant] + list(weights.values()))
        line = {}
        if constant != ZERO:
            line[CONSTANT] = bottom // constant[1] * constant[0]
        for base, (top, own) in weights.items():
            if base not in self.base_columns:
                self.base_columns[base] = self.new_column()
            line[self.base_columns[base]] = bottom // own * top
        return (bottom, line)

    def without_lines(self, line):
        """A line without the columns that have lines themselves."""
        for column, own in self.base_lines:
            if column in line[1]:
                line = replaced(line, column, own)
        for column in list(line[1]):
            if column in self.slack_lines:
                line = replaced(line, column, self.slack_lines[column])
        return line

    def settle(self):
        """None where the rows have a point, else a list of weights of them, whole numbers, that shows otherwise."""
        turns = 0
        while True:
            is_quick = turns < QUICK_TURNS
            broken = self.broken_slack(is_quick)
            if broken is None:
                return None
            helping = self.helping_slack(broken, is_quick)
            if helping is None:
                return self.weights_against(broken)
            self.turn(broken, helping)
            turns += 1

    def broken_slack(self, is_quick):
        """A slack with a line that is not as its row wants it, or None; the shortest line first, to be quick."""
        broken = [column for column, line in self.slack_lines.items() if self.is_broken(column, line)]
        return min(broken, key=lambda column: (self.length(column) if is_quick else 0, column), default=None)

    def length(self, column):
        """How many columns a slack's line bears."""
        return len(self.slack_lines[column][1])

    def is_broken(self, column, line):
        """Whether a slack is below 0, or not 0 where its row is equal."""
        sign = sign_of(line)
        return sign < 0 or sign > 0 and self.fixed[column]

    def helping_slack(self, broken, is_quick):
        """A slack that, grown, mends a broken one, or None; that which lowers the fewest others first, to be quick."""
        line = self.slack_lines[broken]
        sign = -1 if sign_of(line) > 0 else 1
        # The slack of an equal row can't grow.
        helping = [column for column, number in line[1].items()
                   if column >= FIRST_FREE and sign * number > 0 and not self.fixed[column]]
        return min(helping, key=lambda column: (self.many_lowered(column) if is_quick else 0, column), default=None)

    def many_lowered(self, column):
        """In how many lines a slack has a weight below 0."""
        return len([True for line in self.slack_lines.values() if line[1].get(column, 0) < 0])

    def turn(self, broken, helping):
        """Gives the broken slack's line to the helping one, so that the broken one counts as 0."""
        own = turned(self.slack_lines.pop(broken), helping, broken)
        for column, line in list(self.slack_lines.items()):
            if helping in line[1]:
                self.slack_lines[column] = replaced(line, helping, own)
        self.slack_lines[helping] = own

    def weights_against(self, broken):
        """The weights of the rows in a sum of slacks that can't be below 0, but is a constant and a speck that are."""
        bottom, weights = self.slack_lines[broken]
        sign = -1 if sign_of((bottom, weights)) > 0 else 1
        numbers = {column: -sign * number for column, number in weights.items()}
        numbers[broken] = sign * bottom
        return [numbers.get(column, 0) for column in self.row_columns]

    def speck(self):
        """A value for the speck, above 0, that leaves no slack below 0."""
        least = ONE
        for line in self.slack_lines.values():
            constant, many = line[1].get(CONSTANT, 0), line[1].get(SPECK, 0)
            if constant > 0 and many < 0 and under(fraction(constant, -many), least):
                least = fraction(constant, -many)
        return least

    def point(self):
        """A dict from the bases to values by which all rows hold, where settle told None."""
        return self.point_by({CONSTANT: ONE, SPECK: self.speck()})

    def point_by(self, values):
        """A dict from the bases to values, by the values of columns without a line, 0 where there is none."""
        slacks = {column: value_by(line, values) for column, line in self.slack_lines.items()}
        known = dict(values)
        known.update(slacks)
        for column, line in reversed(self.base_lines):
            known[column] = value_by(line, known)
        return {base: known.get(column, ZERO) for base, column in self.base_columns.items()}

    def loosen(self, rows):
        """Makes equal rows of some, given by numbers, that were laid as below rows."""
        columns = {self.row_columns[row]: True for row in rows}
        # What was the slack less a speck is the slack itself now, so lines that bear it bear specks more or less.
        self.fixed.update(columns)
        for column, line in list(self.slack_lines.items()):
            more = line[0] if column in columns else 0
            self.slack_lines[column] = loosened(line, more - self.many_of(line, columns))
        self.base_lines = [(column, loosened(line, -self.many_of(line, columns))) for column, line in self.base_lines]

    def many_of(self, line, columns):
        """The sum of a line's weights of some columns."""
        return sum([number for column, number in line[1].items() if column in columns])

    def rest_fixed(self):
        """Takes the lines from the slacks of equal rows, where settle told None; no value changes by it."""
        for column in [key for key in self.slack_lines if self.fixed[key]]:
            helping = [key for key in self.slack_lines[column][1] if not self.is_fixed(key)]
            if helping:
                self.turn(column, helping[0])
            else:
                del self.slack_lines[column]

    def is_fixed(self, column):
        """Whether a column is the slack of an equal row."""
        return self.fixed.get(column, False)

    def line_of(self, form):
        """The line of a form, over columns that have no lines themselves."""
        line = self.base_line(form)
        return self.without_lines(line) if form[1] else line

    def loose_part(self, line):
        """A line without the slacks of equal rows, as a tuple; behind rest_fixed, forms are equal where these are."""
        bottom, weights = line
        bottom, loose = reduced(bottom, {key: number for key, number in weights.items() if not self.is_fixed(key)})
        return (bottom, tuple(sorted(loose.items())))

    def free_bases(self):
        """The columns of the bases without a line."""
        lined = {column: True for column, line in self.base_lines}
        return [column for column in self.base_columns.values() if column not in lined]

    def free_slacks(self):
        """The slacks that have no line and can grow."""
        return [column for column in self.row_columns if column not in self.slack_lines and not self.fixed[column]]

    def point_off(self, shifts):
        """As point_by, with shifts of columns without a line; None where a row, laid as a below one, breaks."""
        speck = self.speck()
        values = {CONSTANT: ONE, SPECK: speck}
        values.update(shifts)
        for line in self.slack_lines.values():
            if not under(minus(ZERO, speck), value_by(line, values)):
                return None
        return self.point_by(values)
