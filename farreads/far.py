"""Values far out, in one dimension.

With a schedule, the values of each table follow a rule from some place on: each is a sum of a few values
before it, each times a factor. For take the values of a table as the factors of a power series in x. A read
with the vector v makes a product with x to the power v of it. So the equations of all tables are one, with
a matrix M of polynomials: 1 - M times the series gives the constants divided by 1 - x, but for places below
0. Hence each series, times the determinant of 1 - M and 1 - x, comes to an end, and the factors of this
product make up the rule. Closed walks alone come into the determinant; so with a schedule no exponent in it
is below 0, and the factor of the exponent 0 is 1.
"""

from farreads.checks import check_top
from farreads.errors import NoFar
from farreads.levels import schedule
from farreads.polynomials import determinant, multiply, power_of_x
from farreads.values import values_in


def far_value(system, name, place):
    """Return the value of the cell (name, (place,)), wherever it is."""
    check_top(system, name, place)
    if schedule(system) is None:
        raise NoFar(None)
    last = last_free_place(system)
    near = values_in(system, name, last)
    if place <= last:
        return near[(place,)]
    rule = value_rule(system)
    # The value behind the last free place is the first one that follows the rule: those before it, as many as
    # the rule has factors but for the first, make up all that come later.
    first = last + 2 - len(rule)
    weights = power_of_x(place - first, rule, system.modulus)
    return sum([weight * near[(first + at,)] for at, weight in enumerate(weights)]) % system.modulus


def last_free_place(system):
    """Return a place behind which all values follow the rule."""
    last = 0
    for name in system.names:
        # Where the series come to an end, there are only products with at most one entry from each row.
        last += max([vector[0] for _, vector, _ in system.reads(name)] + [0])
    return last


def value_rule(system):
    """Return the list of the factors, the first one 1, with which a value and those before it have the sum 0."""
    matrix = [[entry(system, reader, table) for table in system.names] for reader in system.names]
    found = multiply(determinant(matrix), {0: 1, 1: -1})
    return [found.get(exponent, 0) % system.modulus for exponent in range(max(found) + 1)]


def entry(system, reader, table):
    """Return the entry of 1 - M for the reads of one table from another."""
    found = {0: int(reader == table)}
    for other, vector, factor in system.reads(reader):
        if other == table:
            found[vector[0]] = found.get(vector[0], 0) - factor
    return found
