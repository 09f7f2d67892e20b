"""Cells of a system: what they read, and ways from cell to cell."""

from farreads.checks import check_cell, is_cell


def reads_from(system, cell):
    """Return the list of the cells that a cell reads, in the order of its reads."""
    check_cell(system, cell)
    name, point = cell
    found = []
    for table, vector, _ in system.reads(name):
        place = tuple([start - step for start, step in zip(point, vector)])
        if min(place) >= 0:
            found.append((table, place))
    return found


def is_way(system, cells):
    """Tell if a list of tuples (name, point) is a way of the system."""
    if not cells or not all([is_cell(system, cell) for cell in cells]):
        return False
    return all([later in reads_from(system, earlier) for earlier, later in zip(cells, cells[1:])])
