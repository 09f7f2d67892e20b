"""Values of cells that are ready."""

from farreads.checks import check_top
from farreads.points import box, step_back
from farreads.search import Search, search_ready


def value(system, cell):
    """Return the value of a cell."""
    return reckon(system, search_ready(system, cell))[cell]


def values_in(system, name, top):
    """Return a dict from the points with no integer greater than top to the values of a table there, or None."""
    check_top(system, name, top)
    points = box(system.dimensions, top)
    search = Search(system)
    # The search for the least points goes over all ready cells of the box.
    search.least_unready(name, points)
    worths = reckon(system, search)
    return {point: worths.get((name, point)) for point in points}


def reckon(system, search):
    """Return a dict from the cells that a search has found ready to their values."""
    worths = {}
    for name, point in search.ready:
        total = system.constant(name)
        for table, vector, factor in search.moves[name]:
            place = step_back(point, vector)
            if place is not None:
                total += factor * worths[(table, place)]
        worths[(name, point)] = total % system.modulus
    return worths
