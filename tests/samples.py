"""Systems and a helper that several tests use."""

from farreads.systems import System

LETTERS = "abcdefghijklmnopqrstuvwxyz"


def pair(modulus=97):
    """The system of the examples in the document."""
    return System(
        2,
        [
            ("b", 1, [("b", (-1, 1), 1), ("a", (0, 1), 1)]),
            ("a", 0, [("a", (1, -1), 1), ("b", (0, 0), 1)]),
        ],
        modulus,
    )


def trio():
    """A system of one dimension in which every table reads, one of them several times."""
    return System(
        1,
        [
            ("a", 5, [("b", (1,), 2), ("a", (2,), -3), ("c", (0,), 4), ("b", (1,), 2)]),
            ("b", -7, [("a", (3,), 1)]),
            ("c", 0, [("c", (-1,), 9), ("a", (5,), -9)]),
        ],
    )


def error_of(call, *given, **named):
    """Return the class and the value of the ReadError that a call raises, or None if it raises none."""
    from farreads.errors import ReadError

    try:
        call(*given, **named)
    except ReadError as error:
        return (type(error).__name__, error.value)
    return None
