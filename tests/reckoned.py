"""What the tests reckon by themselves, by other means than the program."""

import itertools
import re
from fractions import Fraction

MOST_CELLS = 50000


def steps(system, cell):
    """The cells that a cell reads, each with the factor."""
    name, point = cell
    found = []
    for table, vector, factor in system.reads(name):
        place = tuple(start - step for start, step in zip(point, vector))
        if all(each >= 0 for each in place):
            found.append(((table, place), factor))
    return found


def reached(system, starts):
    """All cells on ways from some cells, as a dict to the steps from them; None if there are very many."""
    found = {start: None for start in starts}
    line = list(starts)
    for cell in line:
        found[cell] = steps(system, cell)
        for later, _ in found[cell]:
            if later not in found:
                found[later] = None
                line.append(later)
        if len(line) > MOST_CELLS:
            return None
    return found


def upwards(cells):
    """The cells of such a dict, each behind all that it reads; None if some of them read each other in a round."""
    missing = {cell: len(later) for cell, later in cells.items()}
    readers = {cell: [] for cell in cells}
    for cell, later in cells.items():
        for each, _ in later:
            readers[each].append(cell)
    line = [cell for cell in cells if missing[cell] == 0]
    for cell in line:
        for reader in readers[cell]:
            missing[reader] -= 1
            if missing[reader] == 0:
                line.append(reader)
    return line if len(line) == len(cells) else None


def lengths_and_values(system, *starts):
    """Two dicts from all cells on ways from some cells, to the lengths of the longest ways and to the values.

    None if one of the cells is not ready.
    """
    cells = reached(system, starts)
    line = None if cells is None else upwards(cells)
    if line is None:
        return None
    lengths, values = {}, {}
    for cell in line:
        lengths[cell] = max([lengths[later] + 1 for later, _ in cells[cell]] + [0])
        total = system.constant(cell[0]) + sum(factor * values[later] for later, factor in cells[cell])
        values[cell] = total % system.modulus
    return lengths, values


def proves_endless(system, start, found):
    """Whether a tuple (cells, number) is a way from a cell that ends with an endless pair."""
    cells, number = found
    if not cells or cells[0] != start or number not in range(len(cells) - 1):
        return False
    if any(later not in [step[0] for step in steps(system, cell)] for cell, later in zip(cells, cells[1:])):
        return False
    (name, point), (last_name, last_point) = cells[number], cells[-1]
    return name == last_name and all(one <= other for one, other in zip(point, last_point))


def box(dimensions, top):
    """All points with no integer greater than a top."""
    return list(itertools.product(range(top + 1), repeat=dimensions))


def edges(system):
    """A dict from all named reads to tuples (table, table that is read, vector)."""
    found = {}
    for name in system.names:
        for number, (table, vector, _) in enumerate(system.reads(name)):
            found[(name, number)] = (name, table, vector)
    return found


def drop(level, edge):
    """The drop of a level for an edge, or None."""
    one, other, vector = edge
    if one not in level or other not in level or level[one][0] != level[other][0]:
        return None
    return sum(a * b for a, b in zip(level[one][0], vector)) + level[one][1] - level[other][1]


def is_schedule(system, levels):
    """Whether a list of levels, each of a right form, is a schedule."""
    for edge in edges(system).values():
        drops = [drop(level, edge) for level in levels]
        steep = [at for at, each in enumerate(drops) if each is not None and each >= 1]
        if not steep or any(each != 0 for each in drops[:steep[0]]):
            return False
    return True


def is_level(system, level):
    """Whether a dict has the form of a level."""
    return all(
        name in system.names and len(vector) == system.dimensions and min(vector) >= 0 and isinstance(height, int)
        for name, (vector, height) in level.items()
    )


def pieces(found):
    """The pieces of a dict of edges, each one a dict of edges."""
    left, parts = dict(found), []
    while left:
        names, size = set(next(iter(left.values()))[:2]), 0
        while size < len(names):
            size = len(names)
            for one, other, _ in left.values():
                if one in names or other in names:
                    names |= {one, other}
        parts.append({read: edge for read, edge in left.items() if edge[0] in names})
        left = {read: edge for read, edge in left.items() if edge[0] not in names}
    return parts


def rounds(found):
    """All closed walks through a dict of edges that come to no table twice, as lists of named reads."""
    walks = []

    def go_on(first, walk, names):
        for read, (one, other, _) in found.items():
            if one == names[-1] and other == first:
                walks.append(walk + [read])
            elif one == names[-1] and other > first and other not in names:
                go_on(first, walk + [read], names + [other])

    for first in sorted({edge[0] for edge in found.values()}):
        go_on(first, [], [first])
    return walks


def times(one, other):
    """The sum of the products of two vectors, coordinate by coordinate."""
    return sum(a * b for a, b in zip(one, other))


def inmost(dimensions, sums):
    """A vector, none of its integers below 0, whose product with no sum is below 0, and above 0 with all that it can.

    It is the sum of all vectors at the edges of what is allowed.
    """
    normals = [tuple(int(at == row) for at in range(dimensions)) for row in range(dimensions)] + list(sums)
    tries = [(1,)]
    if dimensions == 2:
        tries = [(-y, x) for x, y in normals]
    if dimensions == 3:
        tries = [
            (b * z - c * y, c * x - a * z, a * y - b * x)
            for (a, b, c), (x, y, z) in itertools.combinations(normals, 2)
        ]
    tries = set(tries) | {tuple(-step for step in vector) for vector in tries}
    allowed = [vector for vector in tries if all(times(vector, normal) >= 0 for normal in normals)]
    return tuple(sum(vector[at] for vector in allowed) for at in range(dimensions))


def stuck(dimensions, found):
    """The set of the stuck reads of a dict of edges: those in a round for which nothing goes down in its piece."""
    names = set()
    for piece in pieces(found):
        walks = rounds(piece)
        sums = [tuple(sum(found[read][2][at] for read in walk) for at in range(dimensions)) for walk in walks]
        best = inmost(dimensions, sorted(set(sums)))
        for walk, total in zip(walks, sums):
            if times(best, total) == 0:
                names |= set(walk)
    return names


def least_levels(system):
    """The least number of levels of a schedule, or None."""
    left, many = edges(system), 0
    while left:
        names = stuck(system.dimensions, left)
        if len(names) == len(left):
            return None
        left = {read: edge for read, edge in left.items() if read in names}
        many += 1
    return many


def walk_blocks(system, walk):
    """Whether a list of named reads is a closed walk no integer of whose sum is above 0."""
    found = edges(system)
    if len(walk) == 0 or any(read not in found for read in walk):
        return False
    for at, read in enumerate(walk):
        if found[walk[at - 1]][1] != read[0]:
            return False
    return all(part <= 0 for part in walk_total(system, walk))


def walk_total(system, walk):
    """The sum of the vectors of a list of named reads."""
    total = (0,) * system.dimensions
    for name, number in walk:
        total = tuple(map(sum, zip(total, system.reads(name)[number][1])))
    return total


def walk_bars(system, walk):
    """Whether a list of named reads is a closed walk some integer of whose sum is below 0."""
    found = edges(system)
    if len(walk) == 0 or any(read not in found for read in walk):
        return False
    if any(found[walk[at - 1]][1] != read[0] for at, read in enumerate(walk)):
        return False
    return any(part < 0 for part in walk_total(system, walk))


def piece_at(system, name):
    """The edges of the piece of a table, and the set of the names in it."""
    for piece in pieces(edges(system)):
        names = {edge[0] for edge in piece.values()} | {edge[1] for edge in piece.values()}
        if name in names:
            return piece, names
    return {}, {name}


def bound_worth(system, cell, found):
    """The bound that a tuple (vector, heights) gives for a cell, as a Fraction, or None."""
    (name, point), (vector, heights) = cell, found
    piece, names = piece_at(system, name)
    vector = [Fraction(*number) for number in vector]
    heights = {each: Fraction(*number) for each, number in heights.items()}
    if len(vector) != len(point) or set(heights) != names or min([*vector, *heights.values()]) < 0:
        return None
    if any(times(vector, step) + heights[one] - heights[other] < 1 for one, other, step in piece.values()):
        return None
    return times(vector, point) + heights[name]


def flow_worth(system, cell, found):
    """The sum of a dict of weights, as a Fraction, or None if they are no flow for a cell."""
    name, point = cell
    piece, names = piece_at(system, name)
    weights = {read: Fraction(*number) for read, number in found.items()}
    if not set(weights) <= set(piece) or any(weight < 0 for weight in weights.values()):
        return None
    for each in names:
        gone = sum(weight for read, weight in weights.items() if piece[read][0] == each)
        come = sum(weight for read, weight in weights.items() if piece[read][1] == each)
        if gone > come + (each == name):
            return None
    for axis, most in enumerate(point):
        if sum(weight * piece[read][2][axis] for read, weight in weights.items()) > most:
            return None
    return sum(weights.values(), Fraction(0))


def least_sums(system):
    """A dict from all names to the least sums of walks from there, coordinate by coordinate; None if there are none."""
    found = edges(system).values()
    sums = {name: [0] * system.dimensions for name in system.names}
    for _ in range(200):
        before = [list(total) for total in sums.values()]
        for one, other, vector in found:
            for axis, step in enumerate(vector):
                sums[one][axis] = min(sums[one][axis], step + sums[other][axis])
        if before == list(sums.values()):
            return {name: tuple(total) for name, total in sums.items()}
    return None


def system_text(system):
    """The text that writes a system, by putting one sign behind the other."""
    text = "%d mod %d:" % (system.dimensions, system.modulus)
    for at, name in enumerate(system.names):
        text += "%s %s = %d" % (";" if at else "", name, system.constant(name))
        for table, vector, factor in system.reads(name):
            text += " " + "+-"[factor < 0] + " "
            if factor not in (1, -1):
                text += "%d " % max(factor, -factor)
            text += cell_text((table, vector))
    return text


def cell_text(cell):
    """The text that writes a cell."""
    return cell[0] + str(cell[1]).replace(",)", "]").replace("(", "[").replace(")", "]").replace(",", "")


INTEGER = r"(?:0|-?[1-9][0-9]{0,39})"
FACTOR = r"(?:[2-9]|[1-9][0-9]{1,39})"
NAME = r"[a-z]{1,8}"
READ = rf"(?: [+-] (?:{FACTOR} )?{NAME}\[{INTEGER}(?: {INTEGER})*\])"
SYSTEM_TEXT = re.compile(rf"([1-3]) mod ({INTEGER}): ({NAME} = {INTEGER}{READ}*(?:; {NAME} = {INTEGER}{READ}*)*)")
CELL_TEXT = re.compile(rf"{NAME}\[(?:0|[1-9][0-9]{{0,39}})(?: (?:0|[1-9][0-9]{{0,39}})){{0,2}}\]")


def writes_system(text):
    """Whether a text writes a system, by a pattern of it and what the pattern cannot tell."""
    found = SYSTEM_TEXT.fullmatch(text)
    if found is None:
        return False
    names = re.findall(rf"({NAME}) = ", found[3])
    reads = re.findall(r"([a-z]+)\[([^]]*)\]", found[3])
    return (
        int(found[2]) >= 2
        and len(names) <= 6
        and len(reads) <= 12
        and names == sorted(set(names))
        and all(table in names and len(inside.split()) == int(found[1]) for table, inside in reads)
    )


def writes_cell(text):
    """Whether a text writes a cell."""
    return CELL_TEXT.fullmatch(text) is not None
