"""Values far out, in one dimension.

There, with a schedule, the values of each table follow a rule from some place on: each is a sum of those
a few places before it, each times a factor of its own. The sums of all reads make a matrix of
polynomials, in which a read with the vector v stands at the exponent v. The determinant of the matrix that
remains when it is taken from the one that changes nothing, times 1 - x for the constants, has these
factors. Closed walks alone come into it; so no exponent is below 0, and the factor at 0 is 1.
"""

from farreads.checks import check_top
from farreads.errors import NoFar
from farreads.levels import schedule
from farreads.polynomials import determinant, multiply, power_of_x
from farreads.values import values_in


def far_value(system, name, place):
    """Return the value of the cell (name, (place,)), wherever it is."""
    check_top(system, name, place)
    if schedule(system) is None:
        raise NoFar(None)
    last = last_free_place(system)
    near = values_in(system, name, last)
    if place <= last:
        return near[(place,)]
    rule = value_rule(system)
    first = last + 2 - len(rule)
    weights = power_of_x(place - first, rule, system.modulus)
    return sum([weight * near[(first + at,)] for at, weight in enumerate(weights)]) % system.modulus


def last_free_place(system):
    """Return a place behind which all values follow the rule."""
    last = 0
    for name in system.names:
        # What a table adds to an exponent in a product of the matrix's entries is at most this.
        last += max([vector[0] for _, vector, _ in system.reads(name)] + [0])
    return last


def value_rule(system):
    """Return factors, the first one 1: the products of these and a value, the one before it .. have the sum 0."""
    matrix = [[entry(system, reader, table) for table in system.names] for reader in system.names]
    found = multiply(determinant(matrix), {0: 1, 1: -1})
    return [found.get(exponent, 0) % system.modulus for exponent in range(max(found) + 1)]


def entry(system, reader, table):
    """Return the polynomial of the reads of one table from another, taken from 1 if they are the same."""
    found = {0: int(reader == table)}
    for other, vector, factor in system.reads(reader):
        if other == table:
            found[vector[0]] = found.get(vector[0], 0) - factor
    return found
