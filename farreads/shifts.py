"""Shifts of tables, which make all vectors positive, and closed walks that bar them."""

from farreads.checks import check_shifts
from farreads.pieces import links_of
from farreads.walks import is_closed_walk, walk_sum


def shifted(system, shifts):
    """Return the system shifted by a dict from all its names to tuples of integers."""
    check_shifts(system, shifts)
    made = system
    for name in system.names:
        reads = [
            (table, moved(vector, shifts[name], shifts[table]), factor) for table, vector, factor in system.reads(name)
        ]
        made = made.with_table(name, system.constant(name), reads)
    return made


def greatest_shifts(system):
    """Return the greatest shift below or at 0 with which no vector has an integer below 0, None if there is none."""
    if barring_walk(system) is not None:
        return None
    links = list(links_of(system).values())
    shifts = {name: (0,) * system.dimensions for name in system.names}
    # The shift of a table is the least sum of a walk from it. The least sums are those of walks that come
    # to no table twice; each round has those of walks with one read more.
    for _ in system.names:
        for reader, table, vector in links:
            shifts[reader] = lesser(shifts[reader], moved(vector, (0,) * system.dimensions, shifts[table]))
    return shifts


def barring_walk(system):
    """Return a closed walk whose sum has an integer less than 0, None if there is none."""
    links = links_of(system)
    for axis in range(system.dimensions):
        for name in system.names:
            walk = falling_walk(links, axis, name, len(system))
            if walk is not None:
                return walk
    return None


def bars(system, reads):
    """Tell if a list of named reads is a closed walk whose sum has an integer less than 0."""
    return is_closed_walk(system, reads) and min(walk_sum(system, reads)) < 0


def moved(vector, own, other):
    """Return a vector less the shift of the table that reads, plus that of the table that is read."""
    return tuple([step - less + more for step, less, more in zip(vector, own, other)])


def lesser(one, other):
    """Return the tuple of the lesser integers of two tuples, place by place."""
    return tuple([min(left, right) for left, right in zip(one, other)])


def falling_walk(links, axis, name, most):
    """Return a closed walk from a table, of at most so many reads, with a sum below 0 in a coordinate, or None.

    If there is any closed walk with such a sum, one that comes to no table twice is in it; so there is one
    with at most as many reads as there are tables.
    """
    # For each table, the least sum of a walk to it, of as many reads as there were rounds, and such a walk.
    least = {name: (0, [])}
    for _ in range(most):
        later = {}
        for read, (reader, table, vector) in links.items():
            if reader in least:
                total = least[reader][0] + vector[axis]
                if table not in later or total < later[table][0]:
                    later[table] = (total, least[reader][1] + [read])
        least = later
        if name in least and least[name][0] < 0:
            return least[name][1]
    return None
