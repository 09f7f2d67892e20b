"""[10], and [4] together with it: what holds for all systems, and what changes of a system do to its cells."""

import random
import unittest

import reckoned
from samples import both, nest, opposed_system, pair, random_cells, round_of, single, small_systems

from farreads.levels import count_levels, schedule, stuck_reads
from farreads.ready import endless_way, is_ready, least_unready, shows_endless
from farreads.systems import System
from farreads.values import value, values_in
from farreads.ways import a_longest_way, longest_way, needed


def told(system, cell):
    """All that does not rest on constants, factors and the modulus."""
    if not is_ready(system, cell):
        return None
    return [longest_way(system, cell), a_longest_way(system, cell), needed(system, cell)]


def rows_of(system):
    return [(name, system.constant(name), system.reads(name)) for name in system.names]


class SchedulesTest(unittest.TestCase):
    def test_where_there_is_a_schedule_all_cells_are_ready(self):
        chance, seen = random.Random(90), 0
        for system, top in small_systems(91, 500):
            if schedule(system) is not None:
                seen += 1
                for cell in random_cells(chance, system, top, 2):
                    self.assertIs(is_ready(system, cell), True)
                for name in system.names:
                    self.assertEqual(least_unready(system, name, 3), [])
        self.assertGreater(seen, 150)

    def test_where_schedules_need_several_levels(self):
        chance, seen = random.Random(92), 0
        for _ in range(900):
            system = opposed_system(chance, 2)
            if len(system) < 4 and (count_levels(system) or 0) > 1:
                seen += 1
                for cell in random_cells(chance, system, 6, 2):
                    self.assertIs(is_ready(system, cell), True)
        self.assertGreater(seen, 15)
        for name in nest().names:
            self.assertEqual(least_unready(nest(), name, 1), [])

    def test_where_there_is_none_far_cells_are_not_ready(self):
        seen = 0
        for system, top in small_systems(93, 300):
            if system.dimensions == 1 and schedule(system) is None:
                seen += 1
                left = reckoned.edges(system)
                while len(reckoned.stuck(1, left)) < len(left):
                    left = {read: left[read] for read in reckoned.stuck(1, left)}
                for name, _ in left:
                    self.assertIs(is_ready(system, (name, (top,))), False)
        self.assertGreater(seen, 50)

    def test_where_there_is_none_near_cells_may_be_ready(self):
        for system in (single((2, -2), (-2, 2)), both(), round_of((3,), (-3,))):
            self.assertIsNone(schedule(system))
            self.assertIs(is_ready(system, ("a", (0,) * system.dimensions)), True)
            self.assertIs(is_ready(system, ("a", (6,) * system.dimensions)), False)


class PairsTest(unittest.TestCase):
    def test_endless_pairs_and_ready_cells(self):
        chance, seen = random.Random(94), []
        for system, top in small_systems(95, 200):
            for cell in random_cells(chance, system, top, 1):
                found = endless_way(system, cell)
                seen.append(found is None)
                if found is None:
                    self.assertIs(is_ready(system, cell), True)
                    self.assertTrue(all(is_ready(system, each) for each in needed(system, cell)[:20]))
                else:
                    self.assertIs(shows_endless(system, cell, found), True)
                    self.assertTrue(all(not is_ready(system, each) for each in found[0][:20]))
        self.assertGreater(min(seen.count(True), seen.count(False)), 100)

    def test_cells_above_one_that_is_not_ready(self):
        chance, seen = random.Random(96), 0
        for system, top in small_systems(97, 300):
            for name, point in random_cells(chance, system, top, 3):
                above = tuple(chance.randint(place, top) for place in point)
                if not is_ready(system, (name, point)):
                    self.assertIs(is_ready(system, (name, above)), False)
                    seen += 1
                if is_ready(system, (name, above)):
                    self.assertIs(is_ready(system, (name, point)), True)
        self.assertGreater(seen, 150)

    def test_cells_above_the_least(self):
        for system, top in small_systems(98, 150):
            top = 20 if system.dimensions == 1 else 4
            for name in system.names:
                least = least_unready(system, name, top)
                for point in reckoned.box(system.dimensions, top):
                    above = any(all(one <= other for one, other in zip(low, point)) for low in least)
                    self.assertIs(is_ready(system, (name, point)), not above)


class ChangesTest(unittest.TestCase):
    def cells(self, seed, many):
        chance = random.Random(seed)
        for system, top in small_systems(seed + 1, many):
            for cell in random_cells(chance, system, top, 0):
                yield chance, system, cell

    def test_renamed(self):
        new = ["z", "yy", "a", "x", "b", "c"]
        for _, system, (name, point) in self.cells(100, 100):
            names = dict(zip(system.names, new))
            other = system.renamed(names)
            self.assertIs(is_ready(other, (names[name], point)), is_ready(system, (name, point)))
            self.assertEqual(values_in(other, names[name], 2), values_in(system, name, 2))
            self.assertEqual(least_unready(other, names[name], 2), least_unready(system, name, 2))
            if is_ready(system, (name, point)):
                way = [(names[each], place) for each, place in a_longest_way(system, (name, point))]
                self.assertEqual(a_longest_way(other, (names[name], point)), way)
                self.assertEqual(value(other, (names[name], point)), value(system, (name, point)))

    def test_exchanged(self):
        for _, system, (name, point) in self.cells(102, 100):
            axes = tuple(range(system.dimensions))[::-1]
            other = system.exchanged(axes)
            self.assertIs(is_ready(other, (name, point[::-1])), is_ready(system, (name, point)))
            self.assertEqual(
                least_unready(other, name, 2), sorted(low[::-1] for low in least_unready(system, name, 2))
            )
            if is_ready(system, (name, point)):
                self.assertEqual(longest_way(other, (name, point[::-1])), longest_way(system, (name, point)))
                self.assertEqual(value(other, (name, point[::-1])), value(system, (name, point)))

    def test_beside(self):
        for _, system, cell in self.cells(104, 100):
            if len(system) == 6 or len(system.all_reads()) == 12:
                continue
            reads = [("z", (0,) * system.dimensions, 1)]
            other = system.beside(System(system.dimensions, [("z", 0, reads)], system.modulus))
            self.assertEqual(told(other, cell), told(system, cell))
            self.assertIs(is_ready(other, ("z", cell[1])), False)
            self.assertEqual(values_in(other, cell[0], 2), values_in(system, cell[0], 2))

    def test_without(self):
        for chance, system, cell in self.cells(106, 100):
            other = system.without([chance.choice(system.all_reads())])
            if is_ready(system, cell):
                self.assertIs(is_ready(other, cell), True)
                self.assertLessEqual(longest_way(other, cell), longest_way(system, cell))
            empty = system.without(system.all_reads())
            self.assertEqual(told(empty, cell), [0, [cell], [cell]])
            self.assertEqual(value(empty, cell), system.constant(cell[0]) % system.modulus)

    def test_constants_factors_and_the_modulus_matter_to_values_alone(self):
        for chance, system, cell in self.cells(108, 100):
            rows = []
            for name in system.names:
                reads = [(table, vector, chance.choice([-9, 1, 3])) for table, vector, _ in system.reads(name)]
                rows.append((name, chance.randint(-99, 99), reads))
            other = System(system.dimensions, rows, chance.randint(2, 99))
            self.assertEqual(told(other, cell), told(system, cell))
            self.assertEqual(endless_way(other, cell), endless_way(system, cell))
            self.assertEqual(least_unready(other, cell[0], 2), least_unready(system, cell[0], 2))
            self.assertEqual(stuck_reads(other), stuck_reads(system))

    def test_values_under_another_modulus(self):
        for _, system, cell in self.cells(110, 100):
            if is_ready(system, cell):
                other = System(system.dimensions, rows_of(system), system.modulus * 3)
                self.assertEqual(value(other, cell) % system.modulus, value(system, cell))

    def test_pair_after_changes(self):
        system = pair(1000003).beside(both().renamed({"a": "c"})).exchanged((1, 0)).without([("c", 1)])
        self.assertEqual(count_levels(system), 2)
        self.assertEqual(longest_way(system, ("a", (0, 1))), 4)


if __name__ == "__main__":
    unittest.main()
