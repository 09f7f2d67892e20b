"""[6]: values of cells."""

import random
import unittest

import reckoned
from samples import both, error_of, grow, pair, random_cells, round_of, single, small_systems, trio

from farreads.ready import is_ready
from farreads.systems import System
from farreads.values import value, values_in


class ValueTest(unittest.TestCase):
    def test_known(self):
        fibonacci = [1, 1, 2, 3, 5, 8, 13, 21, 34, 55, 89, 144, 233, 377, 610, 987, 597]
        self.assertEqual([value(grow(), ("a", (at,))) for at in range(17)], fibonacci)
        self.assertEqual([value(grow(), ("u", (at,))) for at in range(3)], [1, 0, 0])
        self.assertEqual(value(pair(), ("a", (1, 0))), 4)
        self.assertEqual(value(both(), ("a", (0, 0))), 1)

    def test_the_remainder_of_the_constant(self):
        for constant, modulus, worth in ((99, 2, 1), (-99, 2, 1), (-1, 1000003, 1000002), (0, 7, 0), (7, 7, 0), (-7, 7, 0)):
            self.assertEqual(value(System(1, [("a", constant, [])], modulus), ("a", (3,))), worth)

    def test_factors(self):
        rows = [("a", 5, [("b", (1,), -9), ("c", (0,), 4), ("b", (2,), 7)]), ("b", 3, []), ("c", -2, [])]
        self.assertEqual([value(System(1, rows, 97), ("a", (at,))) for at in range(3)], [94, 67, 88])

    def test_a_read_that_stands_twice_counts_twice(self):
        self.assertEqual(value(single((1,), (1,)), ("a", (3,))), 15)
        system = System(1, [("a", 1, [("a", (1,), 2), ("a", (1,), -2)])], 50)
        self.assertEqual(value(system, ("a", (9,))), 1)

    def test_small_systems(self):
        chance, seen = random.Random(68), 0
        for system, top in small_systems(69, 400):
            for cell in random_cells(chance, system, top, 1):
                if is_ready(system, cell):
                    worth = value(system, cell)
                    self.assertEqual(worth, reckoned.lengths_and_values(system, cell)[1][cell])
                    self.assertIn(worth, range(system.modulus))
                    seen += 1
        self.assertGreater(seen, 500)

    def test_some_hundred_cells(self):
        system = round_of((3,), (-5,), (5,), (-2,))
        worth = reckoned.lengths_and_values(system, ("a", (100,)))[1][("a", (100,))]
        self.assertEqual(value(system, ("a", (100,))), worth)

    def test_great_moduli(self):
        system = System(1, [("a", 1, [("a", (1,), 9), ("a", (2,), -9)])], 2 * 10 ** 6)
        self.assertEqual(value(system, ("a", (50,))), reckoned.lengths_and_values(system, ("a", (50,)))[1][("a", (50,))])

    def test_errors(self):
        self.assertEqual(error_of(value, both(), ("a", (0, 1))), ("NotReady", ("a", (0, 1))))
        for point in ((), (1,), (1, 1, 1), (1, -1), (-1, 1)):
            self.assertEqual(error_of(value, both(), ("a", point)), ("InvalidCell", ("a", point)))
            self.assertEqual(error_of(value, both(), ("b", point)), ("UnknownTable", "b"))
        self.assertEqual(error_of(value, both(), ("b", (1, 1))), ("UnknownTable", "b"))


class ValuesInTest(unittest.TestCase):
    def test_known(self):
        self.assertEqual(values_in(both(), "a", 1), {(0, 0): 1, (0, 1): None, (1, 0): None, (1, 1): None})
        self.assertEqual(values_in(both(), "a", 0), {(0, 0): 1})
        self.assertEqual(values_in(grow(), "w", 2), {(0,): 1, (1,): 1, (2,): 1})
        self.assertEqual(values_in(trio(), "b", 4), {(0,): 999996, (1,): 999996, (2,): 999996, (3,): None, (4,): None})
        self.assertEqual(values_in(System(3, [("a", 8, [])], 5), "a", 1), {point: 3 for point in reckoned.box(3, 1)})

    def test_small_systems(self):
        chance, nones = random.Random(70), 0
        for system, top in small_systems(71, 200):
            top = chance.randint(0, 20 if system.dimensions == 1 else 4)
            for name in system.names:
                wanted = {}
                for point in reckoned.box(system.dimensions, top):
                    if is_ready(system, (name, point)):
                        wanted[point] = reckoned.lengths_and_values(system, (name, point))[1][(name, point)]
                    else:
                        wanted[point] = None
                self.assertEqual(values_in(system, name, top), wanted)
                nones += None in wanted.values() and any(worth is not None for worth in wanted.values())
        self.assertGreater(nones, 10)

    def test_errors(self):
        self.assertEqual(error_of(values_in, both(), "b", 2), ("UnknownTable", "b"))
        self.assertEqual(error_of(values_in, both(), "a", -1), ("InvalidNumber", -1))
        self.assertEqual(error_of(values_in, both(), "b", -1), ("UnknownTable", "b"))
        self.assertIsNone(error_of(values_in, both(), "a", 0))


if __name__ == "__main__":
    unittest.main()
