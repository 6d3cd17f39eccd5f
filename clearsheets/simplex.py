"""The greatest worth under bounds, found by exchanges in whole numbers."""


class Exchange:
    """Unknowns and the slacks of bounds, some of which are reckoned from the others.

    Row by row, bottom times what is inside at the row, and the row's numbers times what is outside,
    add up to the row's last number. The last row tells the worth in the same way. Unknowns are told
    by their numbers, slacks by the numbers behind them. What is outside is 0.
    """

    def __init__(self, rows, limits, worths, free):
        self.rows = [list(row) + [limit] for row, limit in zip(rows, limits)]
        self.rows.append([-worth for worth in worths] + [0])
        self.outside = list(range(len(worths)))
        self.inside = [len(worths) + at for at in range(len(rows))]
        self.bottom = 1
        self.free = free
        self.turned = []

    def is_free(self, label):
        """Return whether this is an unknown that may be below 0."""
        return label < len(self.free) and self.free[label]

    def entering(self):
        """Return the column of the first label that makes the worth greater, None if there is none."""
        # With the first labels here and below no exchange comes twice, so there is an end (Bland's rule).
        found = None
        for column, label in enumerate(self.outside):
            share = self.rows[-1][column]
            if share < 0 or share > 0 and self.is_free(label):
                if found is None or label < self.outside[found]:
                    found = column
        return found

    def turn(self, column):
        """Let what is outside at the column, an unknown that may be below 0, be told with the other sign."""
        self.turned.append(self.outside[column])
        self.rows = [row[:column] + [-row[column]] + row[column + 1:] for row in self.rows]

    def leaving(self, column):
        """Return the row that bounds what enters most, None if none does."""
        found = None
        for at, label in enumerate(self.inside):
            if self.rows[at][column] > 0 and not self.is_free(label):
                if found is None or self.is_nearer(at, found, column):
                    found = at
        return found

    def is_nearer(self, one, other, column):
        """Return whether row one bounds what enters more than row other, or as much with a lower label."""
        first = self.rows[one][-1] * self.rows[other][column]
        second = self.rows[other][-1] * self.rows[one][column]
        return first < second or first == second and self.inside[one] < self.inside[other]

    def exchange(self, at, column):
        """Exchange what is inside at the row for what is outside at the column."""
        chosen = list(self.rows[at])
        self.rows = [row if number == at else self.cleared(row, chosen, column)
                     for number, row in enumerate(self.rows)]
        self.rows[at][column] = self.bottom
        self.bottom = chosen[column]
        self.inside[at], self.outside[column] = self.outside[column], self.inside[at]

    def cleared(self, row, chosen, column):
        """Return the row with what is at the column told by the chosen row."""
        pivot, share = chosen[column], row[column]
        # All numbers are determinants, which the last pivot divides.
        found = [(number * pivot - share * other) // self.bottom for number, other in zip(row, chosen)]
        found[column] = -share
        return found

    def unknowns(self):
        """Return the numbers of the unknowns, times bottom."""
        found = [0] * len(self.free)
        for at, label in enumerate(self.inside):
            if label < len(self.free):
                found[label] = -self.rows[at][-1] if label in self.turned else self.rows[at][-1]
        return found

    def weights(self):
        """Return how much each bound weighs for the worth, times bottom."""
        found = [0] * len(self.inside)
        for column, label in enumerate(self.outside):
            if label >= len(self.free):
                found[label - len(self.free)] = self.rows[-1][column]
        return found


def greatest(rows, limits, worths, free):
    """Return the greatest worth under bounds as a triple (bottom, unknowns, weights), None if there is none.

    The sum of each row's integers times the unknowns is at most its limit, which is not below 0.
    Unknowns are not below 0 but where free tells so. Unknowns and weights are to be divided by bottom:
    the worth is the sum of worths times unknowns, and that of limits times weights. Weights are not
    below 0; their sums with the columns are the worths where the unknown is free, otherwise at least these.
    """
    work = Exchange(rows, limits, worths, free)
    column = work.entering()
    while column is not None:
        if work.rows[-1][column] > 0:
            work.turn(column)
        at = work.leaving(column)
        if at is None:
            return None
        work.exchange(at, column)
        column = work.entering()
    return (work.bottom, work.unknowns(), work.weights())
