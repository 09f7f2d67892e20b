"""Closed walks: reads one after the other that show that there is no schedule."""

from farreads.checks import check_read
from farreads.levels import drop_less, levels_and_rest
from farreads.pieces import links_of, pieces, tables_of
from farreads.quotients import lowest_terms
from farreads.simplex import greatest


def closed_walk(system):
    """Return a closed walk that blocks, None if there is none."""
    left = levels_and_rest(system)[1]
    if not left:
        return None
    piece = pieces(left)[0]
    return round_trip(piece, balanced_counts(system.dimensions, piece))


def blocks(system, reads):
    """Tell if a list of named reads is a closed walk that blocks."""
    return is_closed_walk(system, reads) and max(walk_sum(system, reads)) <= 0


def walk_sum(system, reads):
    """Return the sum of the vectors of a list of named reads."""
    for read in reads:
        check_read(system, read)
    links = links_of(system)
    return tuple([sum([links[read][2][axis] for read in reads]) for axis in range(system.dimensions)])


def is_closed_walk(system, reads):
    """Tell if a list of named reads is a closed walk."""
    links = links_of(system)
    if not reads or not all([read in links for read in reads]):
        return False
    nexts = reads[1:] + reads[:1]
    return all([links[read][1] == later[0] for read, later in zip(reads, nexts)])


def balanced_counts(dimensions, piece):
    """Return a dict that tells how often a closed walk that blocks takes each link of a piece of stuck links.

    There is such a walk if no count is below 1, as many links lead to each table as from it, and the sum of
    the vectors, each taken so often, is in no coordinate above 0. Now let each link have a part that is at
    most 1 more than the drop for it, and let the sum of the parts be greatest. The prices of these
    constraints are such counts: for the parts they are not below 1, for the heights as many lead to a table
    as from it, and for the vector of the level the sum is not above 0.
    """
    links = list(piece.values())
    names = tables_of(links)
    many = dimensions + len(names)
    units = [[int(at == row) for at in range(len(links))] for row in range(len(links))]
    rows = [drop_less(dimensions, names, link) + unit for link, unit in zip(links, units)]
    prices = greatest(rows, [1] * len(links), [0] * many + [1] * len(links))[1]
    return dict(zip(piece, lowest_terms(prices)))


def round_trip(piece, counts):
    """Return a closed walk that takes each link of a piece as often as counts say."""
    left = {read: counts[read] for read in counts}
    walk = []
    trail = [list(piece)[0]]
    left[trail[0]] -= 1
    while trail:
        later = way_on(piece, left, trail[-1])
        if later is None:
            # What has no way on any more is the end; what is still to be gone stands before it.
            walk.append(trail.pop())
        else:
            left[later] -= 1
            trail.append(later)
    return walk[::-1]


def way_on(piece, left, read):
    """Return a read that may come after another one, and is left to be taken; None if there is none."""
    for later, link in piece.items():
        if left[later] > 0 and link[0] == piece[read][1]:
            return later
    return None
