"""[11]: least bounds and greatest flows, shown from both sides."""

import random
import unittest
from fractions import Fraction

import reckoned
from samples import (
    LETTERS,
    both,
    error_of,
    great_systems,
    grow,
    nest,
    opposed_system,
    pair,
    random_cells,
    random_system,
    round_of,
    single,
    small_systems,
)

from farreads.bounds import bound_numbers, bound_worth, flow_weights, flow_worth, way_bound
from farreads.levels import count_levels, stuck_reads
from farreads.ready import is_ready
from farreads.systems import System
from farreads.ways import a_longest_way, longest_way

FAR = 10 ** 30
GREAT = 10 ** 40
FUNCTIONS = (way_bound, bound_numbers, flow_weights)


def chain():
    """The system of the example in the document."""
    return System(1, [("a", 0, [("b", (-3,), 1)]), ("b", 1, [("a", (4,), 1)])])


def apart():
    """Pieces side by side: one with a bound, one without, and a table without reads."""
    rows = [("a", 0, [("b", (2,), 1)]), ("b", 0, [("a", (1,), 1)]), ("c", 0, [("c", (0,), 1), ("d", (5,), 1)])]
    return System(1, rows + [("d", 0, []), ("e", 7, [])])


def chance_systems(seed, many):
    chance = random.Random(seed)
    for number in range(many):
        dimensions = 1 + number % 3
        if number % 4 == 0:
            yield opposed_system(chance, dimensions)
        else:
            yield random_system(chance, dimensions, 6, 12, chance.choice([1, 2, 5]), 1)
    yield from great_systems(seed, many // 6)


def cells_of(chance, system, many):
    """Cells nearby, at a border and far out."""
    for _ in range(many):
        top = chance.choice([0, 3, 100, FAR, 2 * FAR])
        point = [chance.randint(0, top) for _ in range(system.dimensions)]
        if chance.random() < 0.4:
            point[chance.randrange(system.dimensions)] = 0
        yield chance.choice(system.names), tuple(point)


def cells(seed, many):
    chance = random.Random(seed)
    for system in chance_systems(seed + 1, many):
        for cell in cells_of(chance, system, 2):
            yield chance, system, cell


def as_fraction(number):
    return None if number is None else Fraction(*number)


def as_pair(number):
    return (number.numerator, number.denominator)


def many_levels(system, name):
    """The least number of levels for the piece of a table, or None."""
    names = reckoned.piece_at(system, name)[1]
    other = [read for read in system.all_reads() if read[0] not in names]
    return count_levels(system.without(other))


class FormTest(unittest.TestCase):
    def check_fraction(self, number):
        self.assertEqual([type(number), len(number), type(number[0]), type(number[1])], [tuple, 2, int, int])
        self.assertEqual(as_pair(Fraction(*number)), number)

    def test_forms(self):
        for _, system, cell in cells(250, 60):
            bound, numbers, weights = [call(system, cell) for call in FUNCTIONS]
            piece, names = reckoned.piece_at(system, cell[0])
            if bound is not None:
                vector, heights = numbers
                self.assertEqual([type(numbers), type(vector), type(heights), type(weights)], [tuple, tuple, dict, dict])
                self.assertEqual([len(vector), set(heights)], [system.dimensions, names])
                self.assertEqual(set(weights), set(piece))
                for number in [bound, *vector, *heights.values(), *weights.values()]:
                    self.check_fraction(number)
                    self.assertGreaterEqual(number[0], 0)
                self.check_fraction(bound_worth(system, cell, numbers))
                self.check_fraction(flow_worth(system, cell, weights))


class KnownTest(unittest.TestCase):
    def check(self, system, cell, bound):
        self.assertEqual(way_bound(system, cell), bound)
        self.assertEqual(bound_worth(system, cell, bound_numbers(system, cell)), bound)
        self.assertEqual(flow_worth(system, cell, flow_weights(system, cell)), bound)

    def test_one_table(self):
        for place in (0, 1, 7, FAR):
            self.check(single((1,)), ("a", (place,)), (place, 1))
            self.check(single((2,), (5,)), ("a", (2 * place,)), (place, 1))
            self.check(single((2,)), ("a", (2 * place + 1,)), (2 * place + 1, 2))

    def test_two_coordinates(self):
        self.check(single((1, -1), (0, 1)), ("a", (3, 4)), (10, 1))
        self.check(single((1, 0)), ("a", (3, 4)), (3, 1))
        self.check(single((0, 1), (2, 3)), ("a", (0, 4)), (4, 1))

    def test_a_chain(self):
        for place in (0, 1, 3, 4, 10, FAR):
            self.check(chain(), ("a", (place,)), (2 * place + 7, 1))
            self.check(chain(), ("b", (place,)), (2 * place, 1))

    def test_a_way_that_comes_to_no_round(self):
        rows = [("a", 0, [("b", (0,), 1)]), ("b", 0, [("c", (-5,), 1)]), ("c", 0, [])]
        for name, bound in (("a", (2, 1)), ("b", (1, 1)), ("c", (0, 1))):
            self.check(System(1, rows), (name, (9,)), bound)

    def test_only_a_part_of_a_way_fits(self):
        self.check(System(1, [("a", 0, [("b", (3,), 1)]), ("b", 0, [])]), ("a", (2,)), (2, 3))

    def test_without_reads(self):
        system = System(2, [("a", 5, []), ("b", 0, [])])
        for cell in (("a", (0, 0)), ("b", (FAR, 7))):
            self.check(system, cell, (0, 1))
            self.assertEqual(bound_numbers(system, cell), (((0, 1), (0, 1)), {cell[0]: (0, 1)}))
            self.assertEqual(flow_weights(system, cell), {})

    def test_a_table_that_is_only_read(self):
        system = System(1, [("a", 0, [("b", (1,), 1)]), ("b", 0, [])])
        self.check(system, ("b", (5,)), (0, 1))
        self.assertEqual(set(bound_numbers(system, ("b", (5,)))[1]), {"a", "b"})
        self.assertEqual(flow_weights(system, ("b", (5,))), {("a", 0): (0, 1)})

    def test_side_by_side(self):
        for name, bound in (("a", (6, 1)), ("b", (19, 3)), ("e", (0, 1))):
            self.check(apart(), (name, (9,)), bound)
        self.assertEqual(set(bound_numbers(apart(), ("b", (9,)))[1]), {"a", "b"})
        self.assertEqual(set(flow_weights(apart(), ("b", (9,)))), {("a", 0), ("b", 0)})
        for name in "cd":
            self.assertEqual([call(apart(), (name, (9,))) for call in FUNCTIONS], [None] * 3)

    def test_a_table_from_which_no_way_leads_to_the_rounds_of_its_piece(self):
        for name, bound in (("a", (6, 1)), ("u", (5, 1)), ("w", (5, 1))):
            self.check(grow(), (name, (5,)), bound)

    def test_none(self):
        for system in (pair(), both(), nest(), single((0,)), single((-1,)), single((1, -1), (-1, 1)), round_of((3,), (-3,))):
            for name in system.names:
                for place in (0, 5, FAR):
                    cell = (name, (place,) * system.dimensions)
                    self.assertEqual([call(system, cell) for call in FUNCTIONS], [None] * 3)

    def test_what_is_returned_if_there_is_none(self):
        cell = ("a", (3, 4))
        self.assertIsNone(bound_worth(both(), cell, bound_numbers(both(), cell)))
        self.assertIsNone(flow_worth(both(), cell, flow_weights(both(), cell)))


class BothSidesTest(unittest.TestCase):
    def test_bound_and_flow(self):
        seen = []
        for _, system, cell in cells(252, 500):
            bound, numbers, weights = [call(system, cell) for call in FUNCTIONS]
            seen.append(bound is None)
            if bound is None:
                self.assertEqual([numbers, weights], [None, None])
            else:
                self.assertEqual(reckoned.bound_worth(system, cell, numbers), Fraction(*bound))
                self.assertEqual(reckoned.flow_worth(system, cell, weights), Fraction(*bound))
                self.assertEqual(bound_worth(system, cell, numbers), bound)
                self.assertEqual(flow_worth(system, cell, weights), bound)
        self.assertGreater(min(seen.count(True), seen.count(False)), 200)

    def test_none_where_one_level_is_not_enough(self):
        kinds = set()
        for _, system, cell in cells(254, 400):
            piece, names = reckoned.piece_at(system, cell[0])
            stuck = reckoned.stuck(system.dimensions, piece)
            many = many_levels(system, cell[0])
            self.assertIs(way_bound(system, cell) is None, bool(stuck))
            self.assertIs(way_bound(system, cell) is None, many is None or many > 1)
            self.assertIs(bool(stuck), any(read in piece for read in stuck_reads(system)))
            kinds.add((many, len(reckoned.pieces(reckoned.edges(system))) > 1))
        self.assertLessEqual({(0, True), (1, False), (1, True), (2, False), (2, True), (None, False), (None, True)}, kinds)

    def test_none_does_not_rest_on_the_point(self):
        for _, system, cell in cells(256, 60):
            for name in reckoned.piece_at(system, cell[0])[1]:
                for place in (0, 7, FAR):
                    other = (name, (place,) * system.dimensions)
                    self.assertIs(way_bound(system, other) is None, way_bound(system, cell) is None)


class BentTest(unittest.TestCase):
    def bent_number(self, chance, number):
        top, bottom = number
        return as_pair(Fraction(top, bottom) + chance.choice([-1, 1, Fraction(-1, 3), Fraction(1, 7), -10 * top - 1]))

    def bent_numbers(self, chance, system, found):
        vector, heights = found
        name, at = chance.choice(sorted(heights)), chance.randrange(len(vector))
        other = vector[:at] + (self.bent_number(chance, vector[at]),) + vector[at + 1:]
        less = {each: heights[each] for each in heights if each != name}
        yield other, heights
        yield vector, {**heights, name: self.bent_number(chance, heights[name])}
        yield vector, {**heights, name: (heights[name][0] + 5 * heights[name][1], heights[name][1])}
        yield vector, less
        yield vector, {}
        yield vector, {**heights, chance.choice(system.names + ["q"]): (99, 1)}
        yield vector, {**less, "q": heights[name]}
        yield vector + ((0, 1),), heights
        yield vector[1:], heights
        yield (), heights
        yield vector[::-1], heights
        yield vector, dict(reversed(list(heights.items())))
        yield tuple(self.doubled(number) for number in vector), {each: self.doubled(heights[each]) for each in heights}
        yield ((0, 1),) * len(vector), heights
        yield vector, {each: (0, 1) for each in heights}
        yield tuple((number[0] + number[1], number[1]) for number in vector), heights
        yield ((FAR, 1),) * len(vector), {each: (GREAT, 3) for each in heights}

    def doubled(self, number):
        return as_pair(2 * Fraction(*number))

    def bent_weights(self, chance, system, found):
        reads = system.all_reads()
        for _ in range(3):
            read = chance.choice(reads)
            yield {**found, read: self.bent_number(chance, found.get(read, (0, 1)))}
            yield {**found, read: (0, 1)}
            yield {each: found[each] for each in found if each != read}
        yield {}
        yield {**found, ("q", 0): (0, 1)}
        yield {**found, (reads[0][0], 12): (1, 1)}
        yield {**found, (reads[0][0], -1): (0, 1)}
        yield {each: as_pair(Fraction(*found[each]) / 2) for each in found}
        yield {each: self.doubled(found[each]) for each in found}
        yield {each: (-top, bottom) for each, (top, bottom) in found.items()}
        yield {each: found[each] for each in reversed(list(found)) if found[each][0] > 0}

    def test_numbers(self):
        seen = []
        for chance, system, cell in cells(260, 150):
            found = bound_numbers(system, cell)
            if found is None:
                found = (((1, 1),) * system.dimensions, {name: (1, 2) for name in reckoned.piece_at(system, cell[0])[1]})
            for bent in self.bent_numbers(chance, system, found):
                worth = reckoned.bound_worth(system, cell, bent)
                self.assertEqual(as_fraction(bound_worth(system, cell, bent)), worth)
                seen.append(worth is None)
                if worth is not None:
                    self.assertGreaterEqual(worth, Fraction(*way_bound(system, cell)))
        self.assertGreater(min(seen.count(True), seen.count(False)), 500)

    def test_weights(self):
        seen = []
        for chance, system, cell in cells(262, 200):
            found = flow_weights(system, cell)
            if found is None:
                found = {read: (1, 5) for read in reckoned.piece_at(system, cell[0])[0]}
            if system.all_reads():
                for bent in self.bent_weights(chance, system, found):
                    worth = reckoned.flow_worth(system, cell, bent)
                    self.assertEqual(as_fraction(flow_worth(system, cell, bent)), worth)
                    seen.append(worth is None)
                    if worth is not None and way_bound(system, cell) is not None:
                        self.assertLessEqual(worth, Fraction(*way_bound(system, cell)))
        self.assertGreater(min(seen.count(True), seen.count(False)), 500)

    def test_known_numbers(self):
        cell, heights = ("a", (10,)), {"a": (7, 1), "b": (0, 1)}
        self.assertEqual(bound_worth(chain(), cell, (((2, 1),), heights)), (27, 1))
        self.assertEqual(bound_worth(chain(), cell, (((5, 2),), {"a": (17, 2), "b": (0, 1)})), (67, 2))
        self.assertEqual(bound_worth(chain(), cell, (((2, 1),), {"a": (8, 1), "b": (1, 1)})), (28, 1))
        self.assertEqual(bound_worth(chain(), ("b", (10,)), (((2, 1),), heights)), (20, 1))
        for vector, a, b in (((2, 1), (8, 1), (0, 1)), ((2, 1), (20, 3), (0, 1)), ((19, 10), (7, 1), (0, 1))):
            self.assertIsNone(bound_worth(chain(), cell, ((vector,), {"a": a, "b": b})))
        self.assertIsNone(bound_worth(chain(), cell, (((2, 1),), {"a": (6, 1), "b": (-1, 1)})))
        self.assertIsNone(bound_worth(single((-1,)), cell, (((-1, 1),), {"a": (0, 1)})))
        self.assertIsNone(bound_worth(single((0, -1)), ("a", (1, 1)), (((0, 1), (-1, 1)), {"a": (0, 1)})))

    def test_a_drop_of_one_is_enough(self):
        cell = ("a", (6,))
        for number, worth in (((1, 2), (3, 1)), ((499, 1000), None), ((501, 1000), (1503, 500))):
            self.assertEqual(bound_worth(single((2,)), cell, ((number,), {"a": (0, 1)})), worth)

    def test_a_table_without_reads(self):
        system = System(2, [("a", 0, []), ("b", 0, [("b", (1, 1), 1)])])
        cell = ("a", (3, 4))
        self.assertEqual(bound_worth(system, cell, (((1, 2), (1, 3)), {"a": (1, 6)})), (3, 1))
        self.assertEqual(flow_worth(system, cell, {}), (0, 1))
        for numbers in (((1, 2), (-1, 3)), ((-1, 2), (0, 1)), ((1, 2),), ((1, 2), (0, 1), (0, 1))):
            self.assertIsNone(bound_worth(system, cell, (numbers, {"a": (1, 6)})))
        for heights in ({}, {"b": (1, 1)}, {"a": (1, 1), "b": (1, 1)}, {"a": (-1, 6)}):
            self.assertIsNone(bound_worth(system, cell, (((1, 2), (1, 3)), heights)))
        self.assertIsNone(flow_worth(system, cell, {("b", 0): (0, 1)}))
        self.assertIsNone(flow_worth(system, cell, {("a", 0): (0, 1)}))

    def test_known_weights(self):
        cell = ("a", (10,))
        for weights, worth in (
            ({("a", 0): (14, 1), ("b", 0): (13, 1)}, (27, 1)),
            ({("a", 0): (1, 1)}, (1, 1)),
            ({("a", 0): (1, 3)}, (1, 3)),
            ({}, (0, 1)),
            ({("b", 0): (0, 1)}, (0, 1)),
            ({("b", 0): (1, 1)}, None),
            ({("b", 0): (1, 1), ("a", 0): (1, 1)}, (2, 1)),
            ({("a", 0): (2, 1)}, None),
            ({("a", 0): (2, 1), ("b", 0): (1, 1)}, (3, 1)),
            ({("a", 0): (2, 1), ("b", 0): (2, 1)}, (4, 1)),
            ({("a", 0): (2, 1), ("b", 0): (201, 100)}, None),
            ({("a", 0): (2, 1), ("b", 0): (99, 100)}, None),
            ({("a", 0): (15, 1), ("b", 0): (14, 1)}, None),
            ({("a", 0): (-1, 1), ("b", 0): (-1, 1)}, None),
        ):
            self.assertEqual(flow_worth(chain(), cell, weights), worth)

    def test_weights_that_are_too_great_for_a_coordinate(self):
        system, cell = single((1, 0), (0, 1)), ("a", (3, 4))
        for one, other, worth in (((3, 1), (4, 1), (7, 1)), ((31, 10), (0, 1), None), ((0, 1), (41, 10), None)):
            self.assertEqual(flow_worth(system, cell, {("a", 0): one, ("a", 1): other}), worth)


class WaysTest(unittest.TestCase):
    def ways(self, chance, system, cell):
        """A way from a cell by chance, as a list of tuples (named read, cell that is read)."""
        found = []
        for _ in range(30):
            name, point = found[-1][1] if found else cell
            on = []
            for number, (table, vector, _) in enumerate(system.reads(name)):
                place = tuple(start - step for start, step in zip(point, vector))
                if min(place) >= 0:
                    on.append(((name, number), (table, place)))
            if not on:
                break
            found.append(chance.choice(on))
        return found

    def test_no_way_is_longer(self):
        seen = 0
        chance = random.Random(264)
        for system, top in small_systems(265, 300):
            for cell in random_cells(chance, system, top, 1):
                bound = way_bound(system, cell)
                if bound is not None:
                    seen += 1
                    self.assertIs(is_ready(system, cell), True)
                    self.assertLessEqual(longest_way(system, cell), Fraction(*bound))
        self.assertGreater(seen, 300)

    def test_numbers_of_reads_are_weights(self):
        seen = 0
        for chance, system, cell in cells(266, 300):
            way = self.ways(chance, system, cell)
            weights = {read: (0, 1) for read, _ in way}
            for read, _ in way:
                weights[read] = (weights[read][0] + 1, 1)
            self.assertEqual(flow_worth(system, cell, weights), (len(way), 1))
            seen += len(way) > 3
        self.assertGreater(seen, 100)

    def test_a_longest_way_as_weights(self):
        cell = ("a", (50,))
        way = a_longest_way(chain(), cell)
        self.assertEqual(len(way), 102)
        self.assertEqual(flow_worth(chain(), cell, {("a", 0): (51, 1), ("b", 0): (50, 1)}), (101, 1))
        self.assertEqual(way_bound(chain(), cell), (107, 1))

    def test_along_a_read(self):
        seen = 0
        for chance, system, cell in cells(268, 300):
            bound = way_bound(system, cell)
            if bound is not None:
                for later, _ in reckoned.steps(system, cell):
                    seen += 1
                    self.assertGreaterEqual(Fraction(*bound), 1 + Fraction(*way_bound(system, later)))
        self.assertGreater(seen, 200)

    def test_a_cell_that_is_nowhere_less(self):
        for chance, system, (name, point) in cells(270, 200):
            bound = way_bound(system, (name, point))
            if bound is not None:
                above = tuple(place + chance.choice([0, 1, 9, FAR]) for place in point)
                self.assertGreaterEqual(Fraction(*way_bound(system, (name, above))), Fraction(*bound))

    def test_a_read_less(self):
        for chance, system, cell in cells(272, 200):
            bound = way_bound(system, cell)
            if bound is not None and system.all_reads():
                other = system.without([chance.choice(system.all_reads())])
                self.assertLessEqual(Fraction(*way_bound(other, cell)), Fraction(*bound))


class SameTest(unittest.TestCase):
    def check(self, system, cell, other, other_cell):
        bound = way_bound(system, cell)
        self.assertEqual(way_bound(other, other_cell), bound)
        if bound is not None:
            self.assertEqual(bound_worth(other, other_cell, bound_numbers(other, other_cell)), bound)
            self.assertEqual(flow_worth(other, other_cell, flow_weights(other, other_cell)), bound)

    def test_renamed_and_exchanged(self):
        for chance, system, (name, point) in cells(274, 200):
            names = list(LETTERS[:8])
            chance.shuffle(names)
            names = dict(zip(system.names, names))
            axes = list(range(system.dimensions))
            chance.shuffle(axes)
            self.check(system, (name, point), system.renamed(names), (names[name], point))
            self.check(
                system, (name, point), system.exchanged(tuple(axes)), (name, tuple(point[axis] for axis in axes))
            )

    def test_another_system_beside(self):
        for _, system, cell in cells(276, 100):
            if len(system) < 6 and len(system.all_reads()) < 12:
                stuck = System(system.dimensions, [("zz", 0, [("zz", (0,) * system.dimensions, 1)])], system.modulus)
                self.check(system, cell, system.beside(stuck), cell)
                self.assertIsNone(way_bound(system.beside(stuck), ("zz", cell[1])))

    def test_constants_factors_and_the_modulus_do_not_matter(self):
        for chance, system, cell in cells(278, 100):
            rows = []
            for name in system.names:
                reads = [(table, vector, chance.choice([-9, 1, 3])) for table, vector, _ in system.reads(name)]
                rows.append((name, chance.randint(-99, 99), reads))
            self.check(system, cell, System(system.dimensions, rows, chance.randint(2, 99)), cell)

    def test_great_vectors(self):
        self.assertEqual(way_bound(single((GREAT,)), ("a", (FAR,))), (1, 10 ** 10))
        rows = [("a", 0, [("b", (-GREAT,), 1)]), ("b", 0, [("a", (GREAT + 1,), 1)])]
        self.assertEqual(way_bound(System(1, rows), ("b", (FAR,))), (2 * FAR, 1))
        self.assertEqual(way_bound(System(1, rows), ("a", (FAR,))), (2 * FAR + 2 * GREAT + 1, 1))


class ErrorsTest(unittest.TestCase):
    def calls(self, cell):
        numbers = (((1, 1), (1, 1)), {"a": (1, 1)})
        for found in (None, numbers):
            yield bound_worth, (single((1, 1)), cell, found)
        for found in (None, {}, {("a", 0): (0, 1)}, {("q", 0): (0, 1)}):
            yield flow_worth, (single((1, 1)), cell, found)
        for call in FUNCTIONS:
            yield call, (single((1, 1)), cell)
            yield call, (both(), cell)

    def test_cells_that_are_none(self):
        for name, point, wanted in (
            ("b", (1, 1), "UnknownTable"),
            ("", (1, 1), "UnknownTable"),
            ("b", (1, -1), "UnknownTable"),
            ("b", (), "UnknownTable"),
            ("a", (1, -1), "InvalidCell"),
            ("a", (-FAR, 1), "InvalidCell"),
            ("a", (1,), "InvalidCell"),
            ("a", (1, 1, 1), "InvalidCell"),
            ("a", (), "InvalidCell"),
        ):
            for call, given in self.calls((name, point)):
                value = name if wanted == "UnknownTable" else (name, point)
                self.assertEqual(error_of(call, *given), (wanted, value))



if __name__ == "__main__":
    unittest.main()
