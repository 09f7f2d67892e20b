"""Schedules: the levels that show that all cells are ready, and the reads that get stuck."""

from farreads.checks import check_read, is_point
from farreads.pieces import links_of, pieces, tables_of
from farreads.quotients import lowest_terms
from farreads.simplex import greatest


def schedule(system):
    """Return a schedule with as few levels as possible, None if there is none."""
    levels, left = levels_and_rest(system)
    if left:
        return None
    return levels


def count_levels(system):
    """Return the least number of levels of a schedule, None if there is none."""
    levels = schedule(system)
    if levels is None:
        return None
    return len(levels)


def stuck_reads(system):
    """Return the ascending list of the stuck reads."""
    links = links_of(system)
    return list(stuck_links(steepest_level(system.dimensions, links), links))


def is_schedule(system, levels):
    """Tell if a list of levels is a schedule."""
    if levels is None or not all([is_level(system, level) for level in levels]):
        return False
    return all([goes_down(levels, link) for link in links_of(system).values()])


def drop(system, level, read):
    """Return the drop that a level has for a named read, or None."""
    check_read(system, read)
    return drop_of(level, links_of(system)[read])


def levels_and_rest(system):
    """Return the list of the levels of a shortest schedule, and the dict of the links that no level helps."""
    levels = []
    left = links_of(system)
    while left:
        level = steepest_level(system.dimensions, left)
        stuck = stuck_links(level, left)
        if len(stuck) == len(left):
            break
        levels.append(level)
        left = stuck
    return levels, left


def is_level(system, level):
    """Tell if a dict from names to tuples (vector, height) is a level."""
    names = system.names
    return all([name in names and is_point(system, level[name][0]) for name in level])


def goes_down(levels, link):
    """Tell if levels have drops of 0 for a link up to one that has a greater drop for it."""
    for level in levels:
        found = drop_of(level, link)
        if found is None or found < 0:
            return False
        if found > 0:
            return True
    return False


def drop_of(level, link):
    """Return the drop that a level has for a link, or None."""
    reader, table, vector = link
    if reader not in level or table not in level or level[reader][0] != level[table][0]:
        return None
    slope, height = level[reader]
    # A vector of another length is none of a level; there is no sum of products with it.
    if len(slope) != len(vector):
        return None
    return sum([rise * step for rise, step in zip(slope, vector)]) + height - level[table][1]


def stuck_links(level, links):
    """Return the dict of those links for which a level has a drop of 0."""
    return {read: link for read, link in links.items() if drop_of(level, link) == 0}


def steepest_level(dimensions, links):
    """Return a level with no drop below 0 for all links, and with one above 0 wherever any such level has it."""
    level = {}
    for piece in pieces(links):
        level.update(steepest_in_piece(dimensions, list(piece.values())))
    return level


def steepest_in_piece(dimensions, links):
    """Return the part of `steepest_level` that a list of links of one piece asks for."""
    names = tables_of(links)
    many = dimensions + len(names)
    # The unknowns: the vector, the heights, and for each link a part of its drop that is at most 1. As
    # levels may be added and multiplied, the sum of these parts is greatest if each one that can be is 1.
    units = [[int(at == row) for at in range(len(links))] for row in range(len(links))]
    rows = [drop_less(dimensions, names, link) + unit for link, unit in zip(links, units)]
    rows.extend([[0] * many + unit for unit in units])
    limits = [0] * len(links) + [1] * len(links)
    found = greatest(rows, limits, [0] * many + [1] * len(links))[0]
    numbers = lowest_terms(found[:many])
    vector = tuple(numbers[:dimensions])
    return {name: (vector, height) for name, height in zip(names, numbers[dimensions:])}


def drop_less(dimensions, names, link):
    """Return the factors by which a vector and the heights of tables give the drop for a link, less than 0."""
    reader, table, vector = link
    factors = [-step for step in vector] + [0] * len(names)
    factors[dimensions + names.index(reader)] -= 1
    factors[dimensions + names.index(table)] += 1
    return factors
