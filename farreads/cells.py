"""Cells of a system: what they read, and ways from cell to cell."""

from farreads.checks import check_cell, is_cell
from farreads.points import step_back


def cells_read(reads, point):
    """Return the list of the cells that a list of reads reads from a point, without those outside."""
    found = []
    for table, vector, _ in reads:
        place = step_back(point, vector)
        if place is not None:
            found.append((table, place))
    return found


def reads_from(system, cell):
    """Return the list of the cells that a cell reads, in the order of its reads."""
    check_cell(system, cell)
    name, point = cell
    return cells_read(system.reads(name), point)


def is_way(system, cells):
    """Tell if a list of tuples (name, point) is a way of the system."""
    if not cells or not all([is_cell(system, cell) for cell in cells]):
        return False
    return all([later in reads_from(system, earlier) for earlier, later in zip(cells, cells[1:])])
