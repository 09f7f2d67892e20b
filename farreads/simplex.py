"""The greatest value of a sum under constraints, exactly: the simplex method with integers alone."""


class Tableau:
    """Constraints, each a row of factors and a limit, and a sum whose value they hold down.

    All numbers in the grid are to be divided by `scale`. The last row is the sum, the last column has
    the limits. Unknowns and the slacks of the rows are numbered one after the other.
    """

    def __init__(self, rows, limits, worths):
        self.grid = [row + [limit] for row, limit in zip(rows, limits)]
        self.grid.append([-worth for worth in worths] + [0])
        self.scale = 1
        self.across = list(range(len(worths)))
        self.down = list(range(len(worths), len(worths) + len(rows)))

    def entering(self):
        """Return the column of the first unknown that makes the sum greater, None if there is none."""
        found = None
        for column, unknown in enumerate(self.across):
            if self.grid[-1][column] < 0 and (found is None or unknown < self.across[found]):
                found = column
        return found

    def leaving(self, column):
        """Return the row that holds down a column most; of several, that of the first unknown; None if none does."""
        rows = [row for row in range(len(self.down)) if self.grid[row][column] > 0]
        if not rows:
            return None
        found = rows[0]
        for row in rows[1:]:
            more = self.grid[row][-1] * self.grid[found][column] - self.grid[found][-1] * self.grid[row][column]
            if more < 0 or more == 0 and self.down[row] < self.down[found]:
                found = row
        return found

    def exchange(self, row, column):
        """Let the unknowns of a row and a column change places."""
        pivot_row = self.grid[row]
        pivot = pivot_row[column]
        for line in self.grid[:row] + self.grid[row + 1:]:
            factor = line[column]
            for place, number in enumerate(pivot_row):
                # This division leaves no remainder: all numbers of a grid are determinants.
                line[place] = (line[place] * pivot - factor * number) // self.scale
            line[column] = -factor
        pivot_row[column] = self.scale
        self.scale = pivot
        self.across[column], self.down[row] = self.down[row], self.across[column]

    def solution(self):
        """Return the list of the unknowns, all multiplied by `scale`."""
        found = [0] * len(self.across)
        for row, unknown in enumerate(self.down):
            if unknown < len(found):
                found[unknown] = self.grid[row][-1]
        return found

    def prices(self):
        """Return the list of the prices of the rows, all multiplied by `scale`."""
        many = len(self.across)
        found = [0] * len(self.down)
        for column, unknown in enumerate(self.across):
            if unknown >= many:
                found[unknown - many] = self.grid[-1][column]
        return found


def greatest(rows, limits, worths):
    """Return two lists of integers and a scale, None if there is no greatest sum.

    Divided by the scale, the first list has the numbers that make a sum greatest: that of the products of
    the numbers and their worths. No number is below 0, and for each row, the sum of the products of the
    numbers and the row is at most its limit. Callers pass no limit below 0.

    Divided by the scale, the second list has a price for each row, none below 0: for each number, the sum
    of the products of its factors and the prices is at least its worth. The sum of the products of the
    limits and the prices is the greatest sum; so no such prices make it less.
    """
    tableau = Tableau(rows, limits, worths)
    column = tableau.entering()
    while column is not None:
        row = tableau.leaving(column)
        if row is None:
            return None
        # To take the first unknown wherever there is a choice (Bland) is what makes the loop end.
        tableau.exchange(row, column)
        column = tableau.entering()
    return tableau.solution(), tableau.prices(), tableau.scale
