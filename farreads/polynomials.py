"""Polynomials: dicts from exponents, which may be below 0, to factors; and powers of x among remainders."""


def multiply(one, other):
    """Return the product of two polynomials."""
    found = {}
    for left, factor in one.items():
        for right, worth in other.items():
            found[left + right] = found.get(left + right, 0) + factor * worth
    return found


def determinant(matrix):
    """Return the determinant of a square matrix, a list of lists of polynomials."""
    if not matrix:
        return {0: 1}
    found = {}
    sign = 1
    for column, entry in enumerate(matrix[0]):
        rest = [row[:column] + row[column + 1:] for row in matrix[1:]]
        for exponent, factor in multiply(entry, determinant(rest)).items():
            found[exponent] = found.get(exponent, 0) + sign * factor
        sign = -sign
    return found


def power_of_x(exponent, rule, modulus):
    """Return the factors, that of 1 first, of the remainder of a power of x by the polynomial of a rule.

    The rule has the factors of that polynomial, that of the greatest power, which is 1, first.
    """
    found = [1] + [0] * (len(rule) - 2)
    for place in range(exponent.bit_length() - 1, -1, -1):
        squared = [0] * (2 * len(found))
        for left, factor in enumerate(found):
            for right, worth in enumerate(found):
                squared[left + right + (exponent >> place & 1)] += factor * worth
        found = remainder(squared, rule, modulus)
    return found


def remainder(factors, rule, modulus):
    """Return the remainder of a polynomial by that of a rule."""
    left = list(factors)
    while len(left) >= len(rule):
        top = left.pop() % modulus
        for back in range(1, len(rule)):
            left[-back] -= top * rule[back]
    return [factor % modulus for factor in left]
