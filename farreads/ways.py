"""Longest ways, and the cells that a cell needs."""

from farreads.cells import cells_read
from farreads.search import search_ready


def longest_way(system, cell):
    """Return the greatest length of a way from a cell."""
    return lengths_from(search_ready(system, cell))[cell]


def a_longest_way(system, cell):
    """Return a way of the greatest length from a cell, by the reads with the least numbers."""
    search = search_ready(system, cell)
    lengths = lengths_from(search)
    way = [cell]
    for left in range(lengths[cell] - 1, -1, -1):
        name, point = way[-1]
        longest = [later for later in cells_read(search.moves[name], point) if lengths[later] == left]
        way.append(longest[0])
    return way


def needed(system, cell):
    """Return the list of all cells on ways from a cell, those with the shortest longest ways first."""
    lengths = lengths_from(search_ready(system, cell))
    return sorted(lengths, key=lambda found: (lengths[found], found))


def lengths_from(search):
    """Return a dict from the cells that a search has found ready to the greatest lengths of ways from them."""
    lengths = {}
    for name, point in search.ready:
        later = [lengths[cell] + 1 for cell in cells_read(search.moves[name], point)]
        lengths[(name, point)] = max(later, default=0)
    return lengths
