"""The search for endless ways, on which all that is told of single cells rests."""

from farreads.cells import cells_read
from farreads.checks import check_cell
from farreads.errors import NotReady
from farreads.points import is_below


class Search:
    """A search through the cells of a system; it keeps those that it has found ready.

    `ready` has them as keys, each behind all cells that it reads; `moves` has the reads of each table.
    """

    def __init__(self, system):
        self.moves = {name: system.reads(name) for name in system.names}
        self.ready = {}

    def endless(self, start):
        """Return a way from a cell with the number of the earlier cell of its endless pair, or None.

        If it returns None, the cell and all cells on ways from it are ready.
        """
        trail = Trail(self.moves)
        trail.enter(start)
        while trail.cells:
            if not trail.waiting[-1]:
                self.ready[trail.leave()] = True
                continue
            cell = trail.waiting[-1].pop()
            # A ready cell leads to no endless pair, not even to one with a cell that stands before it.
            if cell in self.ready:
                continue
            earlier = trail.below(cell)
            if earlier is not None:
                return (trail.cells + [cell], trail.cells.index(earlier))
            trail.enter(cell)
        return None

    def least_unready(self, name, points):
        """Return those of the points of a box at which the cell of a table is not ready, but no lesser one.

        The points are ascending, so that all lesser ones stand before a point.
        """
        least = []
        for point in points:
            if not any([is_below(low, point) for low in least]) and self.endless((name, point)) is not None:
                least.append(point)
        return least


class Trail:
    """The way on which a search stands, which has no endless pair."""

    def __init__(self, moves):
        self.moves = moves
        self.cells = []
        # For each cell of the way, the cells it reads that the search has not looked at.
        self.waiting = []
        # For each table, the points on the way with none below them: no endless pair needs another one.
        self.lows = {name: [] for name in moves}
        self.former = []

    def enter(self, cell):
        """Go on to a cell."""
        name, point = cell
        self.cells.append(cell)
        self.waiting.append(cells_read(self.moves[name], point))
        self.former.append(self.lows[name])
        self.lows[name] = [low for low in self.lows[name] if not is_below(point, low)] + [point]

    def leave(self):
        """Go back from the last cell, and return it."""
        cell = self.cells.pop()
        self.waiting.pop()
        self.lows[cell[0]] = self.former.pop()
        return cell

    def below(self, cell):
        """Return a cell of the way that makes an endless pair with a cell that would come next, or None."""
        name, point = cell
        for low in self.lows[name]:
            if is_below(low, point):
                return (name, low)
        return None


def search_ready(system, cell):
    """Return a search that has found all cells on ways from a cell ready; errors: Cell check, then NotReady."""
    check_cell(system, cell)
    search = Search(system)
    if search.endless(cell) is not None:
        raise NotReady(cell)
    return search
