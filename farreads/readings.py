"""Systems and cells from texts.

What is read here need not be checked sign by sign: a text is taken only if what was read from it has
this very text.
"""

from farreads.checks import MOST_DIMENSIONS, is_name
from farreads.errors import InvalidNumber, InvalidSystem, Unreadable
from farreads.systems import System
from farreads.texts import show_cell, show_system

MOST_DIGITS = 40


def read_system(text):
    """Return the system with a text."""
    head, _, equations = text.partition(": ")
    dimensions, _, modulus = head.partition(" mod ")
    tables = [read_table(equation, text) for equation in equations.split("; ")]
    try:
        system = System(read_integer(dimensions, text), tables, read_integer(modulus, text))
    except (InvalidNumber, InvalidSystem):
        raise Unreadable(text) from None
    if show_system(system) != text:
        raise Unreadable(text)
    return system


def read_cell(text):
    """Return the cell with a text."""
    name, _, rest = text.partition("[")
    point = read_integers(rest[:-1], text)
    if not is_name(name) or len(point) > MOST_DIMENSIONS or min(point) < 0 or show_cell((name, point)) != text:
        raise Unreadable(text)
    return (name, point)


def read_table(equation, text):
    """Return the table with an equation, which is a part of a text."""
    name, _, rest = equation.partition(" = ")
    constant, _, reads = rest.partition(" ")
    # Behind the last bracket nothing stands.
    found = [read_read(part.strip(), text) for part in reads.split("]")[:-1]]
    return (name, read_integer(constant, text), found)


def read_read(part, text):
    """Return the read with a part of an equation, without the bracket at its end."""
    before, _, inside = part.partition("[")
    words = before.split(" ")
    factor = read_integer(words[1], text) if len(words) == 3 else 1
    if words[0] == "-":
        factor = -factor
    return (words[-1], read_integers(inside, text), factor)


def read_integers(part, text):
    """Return the tuple of the integers with a part of a text."""
    return tuple([read_integer(word, text) for word in part.split(" ")])


def read_integer(word, text):
    """Return the integer with a word of a text."""
    digits = word.removeprefix("-")
    if not 1 <= len(digits) <= MOST_DIGITS or not all(["0" <= sign <= "9" for sign in digits]):
        raise Unreadable(text)
    return int(word)
