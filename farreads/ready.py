"""Cells that are ready, and endless ways from those that are not."""

from farreads.cells import is_way
from farreads.checks import check_cell, check_top
from farreads.points import box, is_below
from farreads.search import Search


def is_ready(system, cell):
    """Tell if there are not ways of every length from a cell."""
    return endless_way(system, cell) is None


def endless_way(system, cell):
    """Return a way from a cell that ends with an endless pair, with the number of the earlier cell, or None."""
    check_cell(system, cell)
    return Search(system).endless(cell)


def shows_endless(system, cell, found):
    """Tell if a tuple is one that `endless_way` may return for a cell that is not ready."""
    check_cell(system, cell)
    if found is None:
        return False
    cells, number = found
    if not is_way(system, cells) or cells[0] != cell or not 0 <= number < len(cells) - 1:
        return False
    name, point = cells[number]
    last_name, last_point = cells[-1]
    return name == last_name and is_below(point, last_point)


def least_unready(system, name, top):
    """Return the ascending list of the least points, to a top, at which the cells of a table are not ready."""
    check_top(system, name, top)
    return Search(system).least_unready(name, box(system.dimensions, top))
