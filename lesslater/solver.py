"""Durations that meet conditions, found exactly, or weights that tell why there are none.

What a condition's sum comes to is called its margin. Margins depend on the
durations and on one another: a table keeps as many of them (at first the
durations themselves) as columns, which all stand at 0, and tells each other
one by a row: its factors by the columns, its constant, and its share of a
least step. A margin that must be above 0 is measured from this step, which is
less than every number above 0 as long as the table is worked at, and is given
a size at the end.
"""

from lesslater.fractions import common_divisor, fraction, least_of


def without_divisor(numbers):
    """Return the tuple of some integers, not all 0, divided by their greatest common divisor."""
    divisor = 0
    for number in numbers:
        divisor = common_divisor(number, divisor) if number != 0 else divisor
    return tuple([number // divisor for number in numbers])


def exchanged(other, row, place, divisor):
    """Return what another row of a table with a divisor is, when a row and the column at a place change places."""
    size = abs(row[place])
    factor = other[place] if row[place] > 0 else -other[place]
    if size == 1 and divisor == 1:
        entries = [entry - factor * part for entry, part in zip(other, row)]
    else:
        # Each such quotient is a minor of the first table: the division leaves nothing over.
        entries = [(entry * size - factor * part) // divisor for entry, part in zip(other, row)]
    entries[place] = factor
    return entries


class Table:
    """The margins of conditions on so many durations; durations come first, then the conditions, by number."""

    def __init__(self, many):
        # All entries are integers: constants are told by the scale, rows by the divisor.
        self.many = many
        self.scale = 1
        self.divisor = 1
        self.columns = list(range(many))
        self.kinds = ["free"] * many
        # A row for each margin, None for one that is a column.
        self.rows = [None] * many

    def twin(self):
        """Return an equal table that goes on by itself."""
        # No row is ever changed, only replaced: so both may hold the same ones.
        other = Table(self.many)
        other.scale = self.scale
        other.divisor = self.divisor
        other.columns = list(self.columns)
        other.kinds = list(self.kinds)
        other.rows = list(self.rows)
        return other

    def widen(self, bottom):
        """Take a scale with which a fraction of this bottom is told by an integer."""
        factor = bottom // common_divisor(self.scale, bottom)
        if factor > 1:
            self.scale = self.scale * factor
            self.rows = [
                None if row is None else [*row[:-2], row[-2] * factor, row[-1]] for row in self.rows
            ]

    def row_of(self, factors, constant, share):
        """Return the row of the sum of the durations, each times its factor, a constant and a share."""
        row = [0] * self.many + [constant * self.divisor, share * self.divisor]
        for number, factor in enumerate(factors):
            if factor != 0 and self.rows[number] is None:
                row[self.columns.index(number)] += factor * self.divisor
            elif factor != 0:
                row = [entry + factor * part for entry, part in zip(row, self.rows[number])]
        return row

    def enter(self, condition):
        """Add a condition behind all others."""
        factors, constant, kind = condition
        self.widen(constant[1])
        share = -1 if kind == ">" else 0
        row = self.row_of(factors, constant[0] * (self.scale // constant[1]), share)
        self.rows.append(row)
        self.kinds.append(kind)

    def with_all(self, conditions):
        """Return an equal table with some more conditions, which goes on by itself."""
        other = self.twin()
        for condition in conditions:
            other.enter(condition)
        return other

    def need(self, number):
        """Return 1 if a wrong row's margin must grow to be right, -1 if it must shrink."""
        worth = (self.rows[number][-2], self.rows[number][-1])
        return 1 if worth < (0, 0) else -1

    def first_wrong(self):
        """Return the first row that is not right, None if all are."""
        # The first one is taken, of rows and of columns: so no table comes twice (Bland's rule).
        for number, (row, kind) in enumerate(zip(self.rows, self.kinds)):
            if row is not None and kind != "free":
                constant, share = row[-2], row[-1]
                if constant < 0 or (constant == 0 and share < 0) or (kind == "=" and (constant > 0 or share > 0)):
                    return number
        return None

    def first_help(self, number, need):
        """Return the place of the first column that can move a row as it needs, None if none can."""
        helping = []
        for place, column in enumerate(self.columns):
            factor = self.rows[number][place] * need
            kind = self.kinds[column]
            # A column's margin may grow alone; that of a "=" may not move, a duration moves both ways.
            if (factor > 0 and kind != "=") or (factor < 0 and kind == "free"):
                helping.append((column, place))
        if len(helping) == 0:
            return None
        return min(helping)[1]

    def change(self, number, place):
        """Make a row a column, and the column at a place a row."""
        row = self.rows[number]
        sign = 1 if row[place] > 0 else -1
        # If the divisor stays, then so do the rows that do not tell of the column.
        stays = abs(row[place]) == self.divisor
        changed = [
            other if other is None or (stays and other[place] == 0) else exchanged(other, row, place, self.divisor)
            for other in self.rows
        ]
        entries = [-sign * part for part in row]
        entries[place] = sign * self.divisor
        changed[self.columns[place]] = entries
        changed[number] = None
        self.columns[place] = number
        self.rows = changed
        self.divisor = abs(row[place])

    def settle(self):
        """Return whether all rows can be made right, and make them so."""
        number = self.first_wrong()
        while number is not None:
            place = self.first_help(number, self.need(number))
            if place is None:
                return False
            self.change(number, place)
            number = self.first_wrong()
        return True

    def clash(self):
        """Return for each condition its weight in a sum that no durations can give, if settle returned False."""
        # The first wrong row is one that no column helps: what it says of the columns' margins is the sum.
        number = self.first_wrong()
        need = self.need(number)
        weights = [0] * len(self.kinds)
        weights[number] = need * self.divisor
        for place, column in enumerate(self.columns):
            weights[column] = -need * self.rows[number][place]
        return without_divisor(weights[self.many:])

    def first_stop(self, place, sign):
        """Return the row that lets the column at a place move the least, None if none stops it."""
        stop, best = None, None
        for number, (row, kind) in enumerate(zip(self.rows, self.kinds)):
            if row is None or kind == "free":
                continue
            if row[place] * sign < 0 or (row[place] != 0 and kind == "="):
                size = abs(row[place])
                if stop is None or (row[-2] * best[2], row[-1] * best[2]) < (best[0] * size, best[1] * size):
                    stop, best = number, (row[-2], row[-1], size)
        return stop

    def greatest(self, factors):
        """Return the least number that a settled table's sum of durations, each times its factor, is not above.

        Beside it stands whether the sum comes up to it; the table is left where it does, or comes near.
        """
        goal = len(self.kinds)
        self.kinds.append("free")
        self.rows.append(self.row_of(factors, 0, 0))
        place = self.first_help(goal, 1)
        while place is not None:
            sign = 1 if self.rows[goal][place] > 0 else -1
            self.change(self.first_stop(place, sign), place)
            place = self.first_help(goal, 1)
        constant, share = self.rows[goal][-2:]
        return (fraction(constant, self.divisor * self.scale), share == 0)

    def least_step(self):
        """Return a size of the least step with which each right row stays right."""
        sizes = [(1, 1)]
        for row, kind in zip(self.rows, self.kinds):
            if row is not None and kind != "free" and row[-1] < 0:
                sizes.append(fraction(row[-2], -row[-1]))
        return least_of(sizes)

    def found_durations(self):
        """Return the durations with which a settled table's margins are told."""
        top, bottom = self.least_step()
        found = []
        for number in range(self.many):
            constant, share = 0, 0
            if self.rows[number] is not None:
                constant, share = self.rows[number][-2:]
            found.append(fraction(constant * bottom + share * top, bottom * self.divisor * self.scale))
        return tuple(found)


def table_of(conditions, many):
    """Return the table of conditions on so many durations."""
    return Table(many).with_all(conditions)


def solution(conditions, many):
    """Return so many durations that meet all conditions, None if there are none."""
    table = table_of(conditions, many)
    if not table.settle():
        return None
    return table.found_durations()


def solution_with(table, condition):
    """Return durations of a settled table that meet one more condition, None if none do."""
    other = table.with_all([condition])
    if not other.settle():
        return None
    return other.found_durations()
