"""Durations that meet conditions, found exactly.

What a condition's sum comes to is called its margin. Margins depend on the
durations and on one another: a table keeps as many of them (at first the
durations themselves) as columns, which all stand at 0, and tells each other
one by a row: its factors by the columns, its constant, and its share of a
least step. A margin that must be above 0 is measured from this step, which is
less than every number above 0 as long as the table is worked at, and is given
a size at the end.
"""

from lesslater.fractions import common_divisor, fraction, least_of


def common_bottom(conditions):
    """Return a bottom that the constants of all conditions can be written with."""
    bottom = 1
    for factors, constant, kind in conditions:
        bottom = bottom // common_divisor(bottom, constant[1]) * constant[1]
    return bottom


class Table:
    """The margins of conditions on so many durations; durations come first, then the conditions, by number."""

    def __init__(self, conditions, many):
        # All entries are integers: constants are told by the scale, rows by the divisor.
        self.many = many
        self.scale = common_bottom(conditions)
        self.divisor = 1
        self.columns = list(range(many))
        self.kinds = ["free"] * many
        self.rows = {}
        for factors, constant, kind in conditions:
            share = -1 if kind == ">" else 0
            self.rows[len(self.kinds)] = [*factors, constant[0] * (self.scale // constant[1]), share]
            self.kinds.append(kind)

    def need(self, number):
        """Return 1 if a row's margin must grow to be right, -1 if it must shrink, 0 if it is right."""
        kind = self.kinds[number]
        if kind == "free":
            return 0
        worth = (self.rows[number][-2], self.rows[number][-1])
        if worth < (0, 0):
            return 1
        if worth > (0, 0) and kind == "=":
            return -1
        return 0

    def first_wrong(self):
        """Return the first row that is not right, None if all are."""
        # The first one is taken, of rows and of columns: so no table comes twice (Bland's rule).
        for number in sorted(self.rows):
            if self.need(number) != 0:
                return number
        return None

    def first_help(self, number):
        """Return the place of the first column that can move a row to where it must be, None if none can."""
        need = self.need(number)
        helping = []
        for place, column in enumerate(self.columns):
            factor = self.rows[number][place] * need
            kind = self.kinds[column]
            # A column's margin may grow alone; that of a "=" may not move, a duration moves both ways.
            if (factor > 0 and kind != "=") or (factor < 0 and kind == "free"):
                helping.append((column, place))
        if len(helping) == 0:
            return None
        return min(helping)[1]

    def change(self, number, place):
        """Make a row a column, and the column at a place a row."""
        row = self.rows[number]
        pivot = row[place]
        sign = 1 if pivot > 0 else -1
        changed = {}
        for other in self.rows:
            if other != number:
                factor = self.rows[other][place]
                # Each such quotient is a minor of the first table: the division leaves nothing over.
                entries = [
                    sign * (entry * pivot - factor * part) // self.divisor
                    for entry, part in zip(self.rows[other], row)
                ]
                entries[place] = sign * factor
                changed[other] = entries
        entries = [-sign * part for part in row]
        entries[place] = sign * self.divisor
        changed[self.columns[place]] = entries
        self.columns[place] = number
        self.rows = changed
        self.divisor = abs(pivot)

    def settle(self):
        """Return whether all rows can be made right, and make them so."""
        number = self.first_wrong()
        while number is not None:
            place = self.first_help(number)
            if place is None:
                return False
            self.change(number, place)
            number = self.first_wrong()
        return True

    def least_step(self):
        """Return a size of the least step with which each right row stays right."""
        sizes = [(1, 1)]
        for number in self.rows:
            constant, share = self.rows[number][-2:]
            if share < 0 and self.kinds[number] != "free":
                sizes.append(fraction(constant, -share))
        return least_of(sizes)

    def found_durations(self):
        """Return the durations with which a settled table's margins are told."""
        top, bottom = self.least_step()
        found = []
        for number in range(self.many):
            constant, share = 0, 0
            if number in self.rows:
                constant, share = self.rows[number][-2:]
            found.append(fraction(constant * bottom + share * top, bottom * self.divisor * self.scale))
        return tuple(found)


def solution(conditions, many):
    """Return so many durations that meet all conditions, None if there are none."""
    table = Table(conditions, many)
    if not table.settle():
        return None
    return table.found_durations()
