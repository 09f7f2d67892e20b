"""Systems and helpers that several tests use."""

import random

from farreads.systems import System

LETTERS = "abcdefghijklmnopqrstuvwxyz"


def pair(modulus=97):
    """The system of the examples in the document."""
    return System(
        2,
        [
            ("b", 1, [("b", (-1, 1), 1), ("a", (0, 1), 1)]),
            ("a", 0, [("a", (1, -1), 1), ("b", (0, 0), 1)]),
        ],
        modulus,
    )


def both():
    """Another system of the examples, in which only the cell in the corner is ready."""
    return System(2, [("a", 1, [("a", (1, -1), 1), ("a", (-1, 1), 1)])])


def grow():
    """The system of the examples whose values are those of Fibonacci."""
    rows = [("a", 0, [("u", (0,), 1), ("a", (1,), 1), ("a", (2,), 1)]), ("u", 1, [("w", (1,), -1)]), ("w", 1, [])]
    return System(1, rows, 1000)


def trio():
    """A system of one dimension in which every table reads, one of them several times."""
    return System(
        1,
        [
            ("a", 5, [("b", (1,), 2), ("a", (2,), -3), ("c", (0,), 4), ("b", (1,), 2)]),
            ("b", -7, [("a", (3,), 1)]),
            ("c", 0, [("c", (-1,), 9), ("a", (5,), -9)]),
        ],
    )


def nest():
    """A system of three dimensions that needs three levels."""
    rows = [
        ("a", 3, [("a", (1, -1, 0), 1), ("b", (0, 0, 0), 2), ("c", (0, 0, 0), -1)]),
        ("b", 1, [("b", (-1, 1, 0), 1), ("a", (1, 1, -2), 1)]),
        ("c", 0, [("c", (-1, -1, 2), 4), ("a", (0, 0, 1), 1)]),
    ]
    return System(3, rows)


def single(*vectors):
    """A system of one table that reads itself by each of some vectors."""
    return System(len(vectors[0]), [("a", 1, [("a", vector, 1) for vector in vectors])])


def round_of(*vectors):
    """A system in which each table reads the next one, by one vector, and the last one the first."""
    rows = []
    for at, vector in enumerate(vectors):
        rows.append((LETTERS[at], at, [(LETTERS[(at + 1) % len(vectors)], vector, at + 1)]))
    return System(len(vectors[0]), rows, 101)


def random_system(chance, dimensions, most_tables, most_reads, size, least=0):
    """A system by chance; its vectors have integers from -size to size, most of them with a sum from `least` on."""
    names = LETTERS[:chance.randint(1, most_tables)]
    reads = {name: [] for name in names}
    for _ in range(chance.randint(1, most_reads)):
        vector = tuple(chance.randint(-size, size) for _ in range(dimensions))
        if sum(vector) < least and chance.random() < 0.8:
            vector = tuple(-step for step in vector)
        factor = chance.choice([step for step in range(-9, 10) if step != 0])
        reads[chance.choice(names)].append((chance.choice(names), vector, factor))
    rows = [(name, chance.randint(-99, 99), reads[name]) for name in names]
    return System(dimensions, rows, chance.choice([2, 3, 10, 97, 1000003, chance.randint(2, 2 * 10 ** 6)]))


def opposed_system(chance, dimensions):
    """A system by chance in which tables read themselves by vectors that are opposed to those of others."""
    names = LETTERS[:chance.randint(2, 6)]
    pool = [tuple(chance.randint(-2, 2) for _ in range(dimensions)) for _ in range(2)]
    reads = {}
    for name in names:
        vector = chance.choice(pool)
        if chance.random() < 0.5 or max(vector) <= 0:
            vector = tuple(-step for step in vector)
        reads[name] = [(name, vector, 1)]
    for _ in range(chance.randint(0, 12 - len(names))):
        one, other = chance.sample(names, 2)
        vector = tuple(chance.choice([0, 0, 0, 1]) for _ in range(dimensions))
        if chance.random() < 0.3:
            vector = chance.choice(pool)
        reads[one].append((other, vector, 1))
    return System(dimensions, [(name, 0, reads[name]) for name in names])


def small_systems(seed, many):
    """Small systems with greatest points: of one dimension with 100, of two with 6."""
    chance = random.Random(seed)
    for number in range(many):
        if number % 2:
            yield random_system(chance, 1, 6, 12, 5, 1), 100
        else:
            yield random_system(chance, 2, 3, 12, 2), 6


def random_cells(chance, system, top, many):
    """Cells by chance with points to a top, those in the corners among them."""
    cells = [(name, (place,) * system.dimensions) for name in system.names for place in (0, top)]
    for _ in range(many):
        point = tuple(chance.randint(0, top) for _ in range(system.dimensions))
        cells.append((chance.choice(system.names), point))
    return cells


def great_systems(seed, many):
    """Chains and rounds of six tables with twelve reads, of one to three dimensions."""
    chance = random.Random(seed)
    for number in range(many):
        dimensions, rows = 1 + number % 3, {name: [] for name in "abcdef"}
        for at in range(12):
            reader, table = "abcdef"[at % 6], "bcdefa"[at % 6]
            if number % 2 and reader == "f" or at >= 6 and chance.random() < 0.3:
                table = chance.choice("abcdef")
            vector = tuple(chance.randint(chance.choice([-5, -1]), 5) for _ in range(dimensions))
            rows[reader].append((table, vector, 1))
        yield System(dimensions, [(name, 0, rows[name]) for name in rows])


def random_walk(chance, system, most):
    """A list of named reads, each of the table that the one before reads; often closed."""
    reads = system.all_reads()
    walk = [chance.choice(reads)]
    for _ in range(chance.randint(0, most - 1)):
        table = system.reads(walk[-1][0])[walk[-1][1]][0]
        on = [read for read in reads if read[0] == table]
        if not on or table == walk[0][0] and chance.random() < 0.5:
            break
        walk.append(chance.choice(on))
    return walk


def bent_walks(chance, system, walk):
    """Walks that are a little other than another one, which is not empty."""
    reads = system.all_reads()
    at, other = chance.randrange(len(walk)), chance.randrange(len(walk))
    exchanged = list(walk)
    exchanged[at], exchanged[other] = walk[other], walk[at]
    return [
        walk[:at] + walk[at + 1:],
        walk[:at] + [chance.choice(reads)] + walk[at:],
        walk[:at] + [chance.choice(reads)] + walk[at + 1:],
        walk[:at] + walk[at:at + 1] + walk[at:],
        exchanged,
        walk[::-1],
        walk[at:] + walk[:at],
        walk + walk,
        walk * 3,
        walk + [chance.choice([("a", -1), ("a", len(system.reads("a"))), ("q", 0), ("", 0)])],
        [(name, number + 1) for name, number in walk],
        random_walk(chance, system, 6),
        random_walk(chance, system, 3) + walk,
    ]


def error_of(call, *given, **named):
    """Return the class and the value of the ReadError that a call raises, or None if it raises none."""
    from farreads.errors import ReadError

    try:
        call(*given, **named)
    except ReadError as error:
        return (type(error).__name__, error.value)
    return None
