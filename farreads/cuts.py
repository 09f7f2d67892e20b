"""Reads that are left out, so that the others have a schedule."""

from itertools import combinations

from farreads.levels import schedule


def fewest_cuts(system):
    """Return the first list of as few named reads as possible without which there is a schedule."""
    reads = system.all_reads()
    for many in range(len(reads)):
        for cut in combinations(reads, many):
            if has_schedule(system.without(list(cut))):
                return list(cut)
    return reads


def must_go(system):
    """Return the ascending list of the reads without each of which alone there is a schedule."""
    if has_schedule(system):
        return []
    return [read for read in system.all_reads() if has_schedule(system.without([read]))]


def has_schedule(system):
    """Tell if a system has a schedule."""
    return schedule(system) is not None
