"""The least bound of the ways from a cell, shown from both sides: by numbers, and by a flow."""

from farreads.checks import check_cell
from farreads.levels import drop_of
from farreads.pieces import links_of, piece_of, tables_of
from farreads.quotients import common_denominator, fraction, times_whole
from farreads.simplex import greatest


class Around:
    """The piece of a cell, and what flows through it must keep to.

    `links` has the reads of the piece, `tables` the names. A flow keeps to a row with a limit for each
    table, and for each coordinate. The prices of these rows are what the least bound is made of: the
    heights, then the vector.
    """

    def __init__(self, system, cell):
        check_cell(system, cell)
        name, point = cell
        self.links = piece_of(links_of(system), name)
        links = list(self.links.values())
        self.tables = tables_of(links) or [name]
        self.rows = [[int(link[0] == table) - int(link[1] == table) for link in links] for table in self.tables]
        self.rows.extend([[link[2][axis] for link in links] for axis in range(system.dimensions)])
        self.limits = [int(table == name) for table in self.tables] + list(point)

    def best(self):
        """Return the list of the weights of a greatest flow, that of the prices, and their scale; or None."""
        return greatest(self.rows, self.limits, [1] * len(self.links))


def way_bound(system, cell):
    """Return the least bound of a cell, None if there is none."""
    best = Around(system, cell).best()
    if best is None:
        return None
    weights, _, scale = best
    return fraction(sum(weights), scale)


def bound_numbers(system, cell):
    """Return a tuple (vector, heights) that gives the least bound of a cell, None if there is none."""
    around = Around(system, cell)
    best = around.best()
    if best is None:
        return None
    _, prices, scale = best
    numbers = [fraction(price, scale) for price in prices]
    return (tuple(numbers[len(around.tables):]), dict(zip(around.tables, numbers)))


def flow_weights(system, cell):
    """Return a dict from the reads of the piece of a cell to weights with the greatest sum, None if there is none."""
    around = Around(system, cell)
    best = around.best()
    if best is None:
        return None
    weights, _, scale = best
    return {read: fraction(weight, scale) for read, weight in zip(around.links, weights)}


def bound_worth(system, cell, found):
    """Return the bound that a tuple (vector, heights) gives for a cell, None if it gives none."""
    around = Around(system, cell)
    if found is None or len(found[0]) != system.dimensions or sorted(found[1]) != around.tables:
        return None
    vector, heights = found
    scale = common_denominator(list(vector) + list(heights.values()))
    slope = tuple([times_whole(number, scale) for number in vector])
    level = {name: (slope, times_whole(heights[name], scale)) for name in heights}
    if min(slope) < 0 or min([height for _, height in level.values()]) < 0:
        return None
    if not all([drop_of(level, link) >= scale for link in around.links.values()]):
        return None
    name, point = cell
    return fraction(sum_of_products(slope, point) + level[name][1], scale)


def flow_worth(system, cell, found):
    """Return the sum of the weights in a dict from reads to fractions, None if they are no flow for a cell."""
    around = Around(system, cell)
    if found is None or not all([read in around.links for read in found]):
        return None
    scale = common_denominator(list(found.values()))
    weights = [times_whole(found.get(read, (0, 1)), scale) for read in around.links]
    if min(weights, default=0) < 0:
        return None
    if not all([sum_of_products(row, weights) <= limit * scale for row, limit in zip(around.rows, around.limits)]):
        return None
    return fraction(sum(weights), scale)


def sum_of_products(one, other):
    """Return the sum of the products of two lists of integers, place by place."""
    return sum([left * right for left, right in zip(one, other)])
