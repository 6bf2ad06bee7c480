"""The least whole numbers for which some sums are not negative.

The method is the dual simplex method with Gomory's cuts, always in lexicographic order, so that the numbers found are
the least ones. All is done in integers: each row is a constant and one factor for each column, over one common scale,
and stands for scale * (what it counts) = constant + the sum of factor * (what the column counts). What the columns
count is 0 at the present place and never less.
"""


class Tableau:
    """Numbers, the sum of all of them, and the sums of them that must not be negative.

    No constant of a sum is above 0. So fractions for which no sum is negative, times a common denominator, are whole
    numbers for which none is; that there are none at all shows before the first cut.
    """

    def __init__(self, many, sums):
        """many is how many numbers there are, sums a list of lists of a constant and a factor for each number."""
        self.many = many
        places = list(range(1, many + 1))
        units = [[0] + [int(place == column) for column in places] for place in places]
        # Row 0 is the sum of the numbers, the rows 1 to many are the numbers themselves.
        self.rows = [[0] + [1] * many] + units + [list(row) for row in sums]
        self.scale = 1
        # Which row counts the same as the column; None for a cut, which is no row.
        self.labels = [None] + places

    def settle(self):
        """Goes to the numbers with the least sum, of those to the least tuple. False if there are none."""
        while True:
            at = self.negative_row()
            row = self.cut() if at is None else self.rows[at]
            if row is None:
                return True
            column = self.column_for(row)
            if column is None:
                return False
            self.exchange(row, column, at)

    def numbers(self):
        """The tuple of the numbers at the present place, after settle."""
        return tuple([row[0] // self.scale for row in self.rows[1:self.many + 1]])

    def shares(self):
        """For each of the sums how often to add it so that the total is negative for all numbers from 0 on.

        Only after settle was in vain. Then in one row the constant is negative and no factor is positive.
        """
        at = self.negative_row()
        shares = [0] * len(self.rows)
        shares[at] = self.scale
        for column in range(1, self.many + 1):
            shares[self.labels[column]] -= self.rows[at][column]
        return shares[self.many + 1:]

    def negative_row(self):
        """The index of the row that is most negative at the present place; None if there is none."""
        constants = [row[0] for row in self.rows]
        lowest = min(constants)
        return constants.index(lowest) if lowest < 0 else None

    def cut(self):
        """A row that is negative here but not at any whole numbers; None if all numbers are whole here."""
        for row in self.rows[:self.many + 1]:
            missing = -row[0] % self.scale
            if missing > 0:
                return [-missing] + [factor % self.scale for factor in row[1:]]
        return None

    def column_for(self, row):
        """The column that makes up for a negative row at the least cost; None if no column can."""
        best = None
        for column in range(1, self.many + 1):
            if row[column] > 0 and (best is None or self.is_cheaper(row, column, best)):
                best = column
        return best

    def is_cheaper(self, row, column, other):
        """Whether to make up for a row by a column adds less to the sum, or as much and less to the first numbers."""
        head = self.rows[:self.many + 1]
        costs = [line[column] * row[other] for line in head]
        other_costs = [line[other] * row[column] for line in head]
        return costs < other_costs

    def exchange(self, row, column, label):
        """Goes to the place where the row is 0 and lets the column count what the row counts."""
        self.rows = [_exchanged(line, row, column, self.scale) for line in self.rows]
        self.scale = row[column]
        self.labels[column] = label


def _exchanged(line, row, column, scale):
    """A line of the tableau after the exchange of a row and a column."""
    # The division leaves no rest: before and after it stand determinants of whole numbers.
    changed = [(cell * row[column] - line[column] * own) // scale for cell, own in zip(line, row)]
    changed[column] = line[column]
    return changed
