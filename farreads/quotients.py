"""Fractions as tuples (numerator, denominator), and integers that stand for them all at once."""

from math import gcd, lcm


def lowest_terms(numbers):
    """Return integers divided by their greatest common divisor."""
    common = 0
    for number in numbers:
        common = gcd(common, number)
    return [number // max(common, 1) for number in numbers]


def fraction(top, bottom):
    """Return the fraction that is an integer divided by one above 0."""
    return tuple(lowest_terms([top, bottom]))


def common_denominator(fractions):
    """Return the least integer above 0 by which all fractions of a list become integers."""
    common = 1
    for _, bottom in fractions:
        common = lcm(common, bottom)
    return common


def times_whole(number, scale):
    """Return the integer that is a fraction times a multiple of its denominator."""
    top, bottom = number
    return top * (scale // bottom)
