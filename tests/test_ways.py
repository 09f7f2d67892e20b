"""[6]: longest ways, and the cells that are needed."""

import random
import unittest

import reckoned
from samples import both, error_of, grow, pair, random_cells, round_of, single, small_systems, trio

from farreads.cells import is_way
from farreads.ready import is_ready
from farreads.systems import System
from farreads.ways import a_longest_way, longest_way, needed


class LongestWayTest(unittest.TestCase):
    def test_known(self):
        self.assertEqual([longest_way(single((1,)), ("a", (at,))) for at in range(5)], [0, 1, 2, 3, 4])
        self.assertEqual([longest_way(single((3,)), ("a", (at,))) for at in range(8)], [0, 0, 0, 1, 1, 1, 2, 2])
        self.assertEqual([longest_way(single((5,), (2,)), ("a", (at,))) for at in range(8)], [0, 0, 1, 1, 2, 2, 3, 3])
        self.assertEqual(longest_way(System(1, [("a", 0, [])]), ("a", (100,))), 0)
        self.assertEqual([longest_way(trio(), ("b", (at,))) for at in range(3)], [0, 0, 0])
        self.assertEqual(longest_way(pair(), ("a", (1, 0))), 4)
        self.assertEqual(longest_way(both(), ("a", (0, 0))), 0)

    def test_a_read_that_stands_twice(self):
        twice = single((1,), (1,), (1,))
        self.assertEqual([longest_way(twice, ("a", (4,))), len(a_longest_way(twice, ("a", (4,))))], [4, 5])
        self.assertEqual(needed(twice, ("a", (2,))), [("a", (0,)), ("a", (1,)), ("a", (2,))])

    def test_some_hundred_cells(self):
        for vectors in ([(3,), (-5,), (5,), (-2,)], [(1,)] * 5 + [(-4,)], [(5,), (-5,), (5,), (-4,)]):
            system = round_of(*vectors)
            self.check(system, ("a", (100,)))
            self.assertGreater(longest_way(system, ("a", (100,))), 350)

    def test_small_systems(self):
        chance, greatest = random.Random(64), 0
        for system, top in small_systems(65, 400):
            for cell in random_cells(chance, system, top, 1):
                if is_ready(system, cell):
                    greatest = max(greatest, self.check(system, cell))
        self.assertGreater(greatest, 100)

    def check(self, system, cell):
        lengths, _ = reckoned.lengths_and_values(system, cell)
        self.assertEqual(longest_way(system, cell), lengths[cell])
        way = a_longest_way(system, cell)
        self.assertEqual([way[0], len(way)], [cell, lengths[cell] + 1])
        self.assertTrue(is_way(system, way))
        for one, other in zip(way, way[1:]):
            firsts = [later for later, _ in reckoned.steps(system, one) if lengths[later] == lengths[one] - 1]
            self.assertEqual(other, firsts[0])
        self.assertEqual(needed(system, cell), sorted(lengths, key=lambda each: (lengths[each], *each)))
        return lengths[cell]


class FirstReadsTest(unittest.TestCase):
    def test_the_read_with_the_least_number(self):
        rows = [("a", 0, [("c", (0,), 1), ("b", (0,), 1)]), ("b", 0, []), ("c", 0, [])]
        self.assertEqual(a_longest_way(System(1, rows), ("a", (3,))), [("a", (3,)), ("c", (3,))])
        rows = [("a", 0, [("b", (0,), 1), ("c", (0,), 1)]), ("b", 0, []), ("c", 0, [])]
        self.assertEqual(a_longest_way(System(1, rows), ("a", (3,))), [("a", (3,)), ("b", (3,))])

    def test_only_reads_that_begin_a_longest_way(self):
        rows = [("a", 0, [("b", (0,), 1), ("c", (0,), 1)]), ("b", 0, []), ("c", 0, [("b", (1,), 1)])]
        self.assertEqual(a_longest_way(System(1, rows), ("a", (1,))), [("a", (1,)), ("c", (1,)), ("b", (0,))])
        self.assertEqual(a_longest_way(System(1, rows), ("a", (0,))), [("a", (0,)), ("b", (0,))])

    def test_reads_outside_are_passed_over(self):
        rows = [("a", 0, [("b", (4,), 1), ("c", (0,), 1)]), ("b", 0, []), ("c", 0, [])]
        self.assertEqual(a_longest_way(System(1, rows), ("a", (3,))), [("a", (3,)), ("c", (3,))])
        self.assertEqual(a_longest_way(System(1, rows), ("a", (4,))), [("a", (4,)), ("b", (0,))])


class NeededTest(unittest.TestCase):
    def test_the_cell_itself(self):
        self.assertEqual(needed(System(1, [("a", 0, [])]), ("a", (9,))), [("a", (9,))])

    def test_each_once_and_in_order(self):
        self.assertEqual(
            needed(grow(), ("a", (2,))),
            [("u", (0,)), ("w", (0,)), ("w", (1,)), ("a", (0,)), ("u", (1,)), ("u", (2,)), ("a", (1,)), ("a", (2,))],
        )

    def test_by_name_then_by_point(self):
        rows = [("m", 0, [(name, (at,), 1) for name, at in (("z", 0), ("ab", 2), ("ab", 0), ("b", 1), ("z", 3))])]
        system = System(1, rows + [(name, 0, []) for name in ("z", "b", "ab")])
        self.assertEqual(
            needed(system, ("m", (12,))),
            [("ab", (10,)), ("ab", (12,)), ("b", (11,)), ("z", (9,)), ("z", (12,)), ("m", (12,))],
        )
        self.assertEqual(needed(system, ("m", (1,))), [("ab", (1,)), ("b", (0,)), ("z", (1,)), ("m", (1,))])

    def test_by_length_first(self):
        rows = [("a", 0, [("b", (0,), 1)]), ("b", 0, [("c", (0,), 1)]), ("c", 0, [])]
        self.assertEqual(needed(System(1, rows), ("a", (1,))), [("c", (1,)), ("b", (1,)), ("a", (1,))])

    def test_points_by_coordinates(self):
        system = System(2, [("a", 0, [("b", (0, 1), 1), ("b", (1, 0), 1), ("b", (1, 1), 1)]), ("b", 0, [])])
        self.assertEqual(
            needed(system, ("a", (2, 1))), [("b", (1, 0)), ("b", (1, 1)), ("b", (2, 0)), ("a", (2, 1))]
        )


class ErrorsTest(unittest.TestCase):
    def test_each_in_order(self):
        for call in (longest_way, a_longest_way, needed):
            self.assertEqual(error_of(call, both(), ("a", (0, 1))), ("NotReady", ("a", (0, 1))))
            self.assertEqual(error_of(call, single((0,)), ("a", (0,))), ("NotReady", ("a", (0,))))
            for point in ((), (1,), (1, 1, 1), (1, -1), (-1, 1)):
                self.assertEqual(error_of(call, both(), ("a", point)), ("InvalidCell", ("a", point)))
                self.assertEqual(error_of(call, both(), ("b", point)), ("UnknownTable", "b"))
            self.assertEqual(error_of(call, both(), ("b", (1, 1))), ("UnknownTable", "b"))
            self.assertIsNone(error_of(call, both(), ("a", (0, 0))))

    def test_a_cell_that_only_leads_to_a_round(self):
        rows = [("a", 0, [("b", (4,), 1)]), ("b", 0, [("b", (0,), 1)])]
        for call in (longest_way, a_longest_way, needed):
            self.assertIsNone(error_of(call, System(1, rows), ("a", (3,))))
            self.assertEqual(error_of(call, System(1, rows), ("a", (4,))), ("NotReady", ("a", (4,))))


if __name__ == "__main__":
    unittest.main()
