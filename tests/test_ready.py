"""[6] and [10]: cells that are ready, and endless ways from those that are not."""

import random
import unittest

import reckoned
from samples import both, error_of, grow, pair, random_cells, round_of, single, small_systems, trio

from farreads.ready import endless_way, is_ready, least_unready, shows_endless
from farreads.systems import System


class KnownCellsTest(unittest.TestCase):
    def ready_places(self, system, name, top):
        return [at for at in range(top + 1) if is_ready(system, (name, (at,)))]

    def test_one_table(self):
        self.assertEqual(self.ready_places(single((1,)), "a", 100), list(range(101)))
        self.assertEqual(self.ready_places(single((3,), (5,), (1,)), "a", 40), list(range(41)))
        self.assertEqual(self.ready_places(single((0,)), "a", 9), [])
        self.assertEqual(self.ready_places(single((-1,)), "a", 9), [])
        self.assertEqual(self.ready_places(single((2,), (0,)), "a", 9), [])

    def test_no_reads(self):
        for cell in (("a", (0,)), ("a", (100,)), ("b", (7,))):
            self.assertIs(is_ready(System(1, [("a", 0, []), ("b", 1, [])]), cell), True)

    def test_reads_outside_count_for_nothing(self):
        self.assertEqual(self.ready_places(single((3,), (-1,)), "a", 9), [])
        rows = [("a", 0, [("b", (4,), 1)]), ("b", 0, [("b", (0,), 1)])]
        self.assertEqual(self.ready_places(System(1, rows), "a", 9), [0, 1, 2, 3])
        rows = [("a", 0, [("b", (3,), 1)]), ("b", 0, [("a", (-3,), 1)])]
        self.assertEqual(self.ready_places(System(1, rows), "a", 9), [0, 1, 2])
        self.assertEqual(self.ready_places(System(1, rows), "b", 9), [])

    def test_far_from_the_round(self):
        self.assertEqual(self.ready_places(trio(), "a", 9), [])
        self.assertEqual(self.ready_places(trio(), "b", 9), [0, 1, 2])
        self.assertEqual(self.ready_places(grow(), "a", 100), list(range(101)))

    def test_two_dimensions(self):
        ready = [point for point in reckoned.box(2, 3) if is_ready(both(), ("a", point))]
        self.assertEqual(ready, [(0, 0)])
        ready = [point for point in reckoned.box(2, 4) if is_ready(single((2, -1), (-1, 0)), ("a", point))]
        self.assertEqual(ready, [])
        ready = [point for point in reckoned.box(2, 4) if is_ready(single((2, -2), (-2, 2)), ("a", point))]
        self.assertEqual(ready, [(0, 0), (0, 1), (1, 0), (1, 1)])
        for name in "ab":
            self.assertTrue(all(is_ready(pair(), (name, point)) for point in reckoned.box(2, 6)))

    def test_three_dimensions(self):
        ready = [point for point in reckoned.box(3, 2) if is_ready(single((1, 1, -1), (-1, -1, 1)), ("a", point))]
        self.assertEqual(ready, [(0, 0, 0), (0, 1, 0), (0, 2, 0), (1, 0, 0), (2, 0, 0)])

    def test_a_ready_cell_that_two_ways_come_to(self):
        rows = [("a", 0, [("c", (0,), 1), ("b", (0,), 1)]), ("b", 0, [("c", (0,), 1)]), ("c", 0, [])]
        self.assertIs(is_ready(System(1, rows), ("a", (0,))), True)

    def test_answers_are_truth_values(self):
        self.assertIs(is_ready(both(), ("a", (0, 0))), True)
        self.assertIs(is_ready(both(), ("a", (0, 1))), False)
        self.assertIsNone(endless_way(both(), ("a", (0, 0))))
        found = endless_way(both(), ("a", (0, 1)))
        self.assertEqual([type(found), type(found[0]), type(found[1])], [tuple, list, int])


class SearchTest(unittest.TestCase):
    def check(self, system, cell):
        """Check the verdict on one cell by a search of the test's own or by the way that is returned."""
        found = endless_way(system, cell)
        self.assertIs(is_ready(system, cell), found is None, (system.names, cell))
        if found is None:
            self.assertIsNotNone(reckoned.lengths_and_values(system, cell))
        else:
            self.assertTrue(reckoned.proves_endless(system, cell, found))
            self.assertIs(shows_endless(system, cell, found), True)
        return found is None

    def test_small_systems(self):
        chance, seen = random.Random(61), []
        for system, top in small_systems(6, 500):
            for cell in random_cells(chance, system, top, 2):
                seen.append((system.dimensions, self.check(system, cell)))
        for kind in ((1, True), (1, False), (2, True), (2, False)):
            self.assertGreater(seen.count(kind), 400)

    def test_all_points_of_one_dimension(self):
        for number, (system, top) in enumerate(small_systems(7, 12)):
            if number % 2:
                for name in system.names:
                    for at in range(top + 1):
                        self.check(system, (name, (at,)))

    def test_rounds_with_long_ways(self):
        rounds = [[3, -5, 5, -2], [5, -5, 5, -5, 1], [-5, -5, 5, 5, -4, 5], [0, 0, 0, 1]]
        for vectors in rounds:
            system = round_of(*[(step,) for step in vectors])
            for name in system.names:
                self.assertTrue(self.check(system, (name, (100,))))
            lengths, _ = reckoned.lengths_and_values(system, ("a", (100,)))
            self.assertGreater(max(lengths.values()), 350)

    def test_rounds_that_come_back_as_high(self):
        for last in (0, -1):
            system = round_of((3,), (-5,), (5,), (-3,), (last,))
            self.assertFalse(self.check(system, ("a", (100,))))
            self.assertEqual([at for at in range(6) if is_ready(system, ("a", (at,)))], [0, 1, 2])

    def test_rounds_of_two_dimensions(self):
        self.assertTrue(self.check(round_of((2, -2), (-1, 2), (0, 0)), ("a", (6, 6))))
        self.assertFalse(self.check(round_of((2, -2), (-1, 2), (-1, 0)), ("a", (6, 6))))
        self.assertTrue(self.check(round_of((2, -2), (-1, 2), (-1, 0)), ("a", (1, 6))))

    def test_long_ways_before_an_endless_pair(self):
        rows = [("a", 0, [("a", (1,), 1), ("b", (5,), 1)]), ("b", 0, [("b", (-1,), 1)])]
        for at in (0, 4, 5, 100):
            self.assertEqual(self.check(System(1, rows), ("a", (at,))), at < 5)


class ShowsEndlessTest(unittest.TestCase):
    CELL = ("a", (1, 2))
    WAY = [("a", (1, 2)), ("a", (0, 3)), ("a", (1, 2)), ("a", (2, 1)), ("a", (1, 2))]

    def check(self, cells, number, right):
        self.assertIs(shows_endless(both(), self.CELL, (cells, number)), right)

    def test_right_ones(self):
        self.check(self.WAY, 0, True)
        self.check(self.WAY, 2, True)
        self.check(self.WAY[:3], 0, True)

    def test_greater_last_points(self):
        up = single((-1, 0), (1, 0))
        cells = [("a", (4, 4)), ("a", (3, 4)), ("a", (4, 4)), ("a", (5, 4))]
        for number in range(3):
            self.assertIs(shows_endless(up, ("a", (4, 4)), (cells, number)), True)

    def test_other_numbers(self):
        for number in (1, 3, 4, 5, -1, -2, -3, -5, 10 ** 40, -10 ** 40):
            self.check(self.WAY, number, False)

    def test_a_cell_less(self):
        for number in range(5):
            self.check(self.WAY[1:], number, False)
            self.check(self.WAY[:1] + self.WAY[2:], number, False)
        self.check(self.WAY[:4], 0, False)

    def test_a_cell_more(self):
        self.check(self.WAY + [("a", (0, 3))], 0, False)
        self.check(self.WAY + [("a", (0, 3))], 1, True)
        self.check([("a", (0, 3))] + self.WAY, 1, False)
        self.check(self.WAY[:2] + self.WAY[1:], 0, False)

    def test_turned_round(self):
        rows = [("a", 0, [("b", (0, 0), 1), ("a", (1, 0), 1)]), ("b", 0, [("a", (-1, 0), 1)])]
        cells = [("a", (1, 1)), ("b", (1, 1)), ("a", (2, 1)), ("a", (1, 1))]
        self.assertIs(shows_endless(System(2, rows), ("a", (1, 1)), (cells, 0)), True)
        self.assertIs(shows_endless(System(2, rows), ("a", (1, 1)), (cells[::-1], 0)), False)

    def test_other_cells(self):
        self.check([], 0, False)
        self.check(self.WAY[:1], 0, False)
        for point in ((1, 1), (2, 2), (0, 0), (-1, 4), (1,), (1, 2, 3), (), (10 ** 40, 0)):
            for at in range(5):
                for number in (0, 2):
                    self.check(self.WAY[:at] + [("a", point)] + self.WAY[at + 1:], number, False)

    def test_other_names(self):
        for name in ("b", "", "A"):
            for at in range(5):
                self.check(self.WAY[:at] + [(name, self.WAY[at][1])] + self.WAY[at + 1:], 0, False)

    def test_another_table_is_no_pair(self):
        system = System(1, [("a", 0, [("b", (0,), 1)]), ("b", 0, [("b", (-1,), 1)])])
        cells = [("a", (1,)), ("b", (1,)), ("b", (2,))]
        self.assertIs(shows_endless(system, ("a", (1,)), (cells, 1)), True)
        self.assertIs(shows_endless(system, ("a", (1,)), (cells, 0)), False)
        self.assertIs(shows_endless(system, ("b", (1,)), (cells[1:], 0)), True)

    def test_one_coordinate_less_is_no_pair(self):
        system = single((1, -5), (-1, 5), (1, 1))
        cells = [("a", (3, 3)), ("a", (2, 8)), ("a", (1, 13))]
        for number in (0, 1):
            self.assertIs(shows_endless(system, ("a", (3, 3)), (cells, number)), False)

    def test_the_way_of_another_cell(self):
        self.assertIs(shows_endless(both(), ("a", (0, 3)), (self.WAY, 0)), False)
        self.assertIs(shows_endless(both(), ("a", (0, 3)), (self.WAY[1:4] + [("a", (0, 3))], 0)), False)
        self.assertIs(shows_endless(both(), ("a", (0, 0)), ([("a", (0, 0)), ("a", (0, 0))], 0)), False)

    def test_what_endless_way_returns_for_a_ready_cell(self):
        self.assertIs(shows_endless(both(), ("a", (0, 0)), endless_way(both(), ("a", (0, 0)))), False)

    def test_bent_ways_of_small_systems(self):
        chance = random.Random(66)
        for system, top in small_systems(67, 150):
            cell = random_cells(chance, system, top, 1)[-1]
            found = endless_way(system, cell)
            if found is not None:
                for cells, number in self.bent(chance, system, *found):
                    right = reckoned.proves_endless(system, cell, (cells, number))
                    self.assertIs(shows_endless(system, cell, (cells, number)), right)

    def bent(self, chance, system, cells, number):
        """Ways with a number that are bent in one place."""
        at = chance.randrange(len(cells))
        name, point = cells[at]
        moved = tuple(place + chance.choice([-1, 0, 1]) for place in point)
        bent = [(cells, other) for other in range(-2, len(cells) + 2)]
        bent += [(cells[:at] + cells[at + 1:], number), (cells[:at + 1] + cells[at:], number), (cells[::-1], number)]
        bent += [(cells[:at] + [(name, moved)] + cells[at + 1:], number), (cells[:-1], number), (cells[1:], number)]
        bent.append((cells[:at] + [(chance.choice(system.names), point)] + cells[at + 1:], number))
        return bent


class LeastUnreadyTest(unittest.TestCase):
    def test_known(self):
        self.assertEqual(least_unready(both(), "a", 3), [(0, 1), (1, 0)])
        self.assertEqual(least_unready(both(), "a", 1), [(0, 1), (1, 0)])
        self.assertEqual(least_unready(both(), "a", 0), [])
        self.assertEqual(least_unready(pair(), "a", 4), [])
        self.assertEqual(least_unready(single((0,)), "a", 20), [(0,)])
        self.assertEqual(least_unready(single((0,)), "a", 0), [(0,)])
        self.assertEqual(least_unready(trio(), "b", 20), [(3,)])
        self.assertEqual(least_unready(trio(), "b", 3), [(3,)])
        self.assertEqual(least_unready(trio(), "b", 2), [])
        self.assertEqual(least_unready(single((2, -2), (-2, 2)), "a", 4), [(0, 2), (2, 0)])
        self.assertEqual(least_unready(single((0, 0, 0)), "a", 2), [(0, 0, 0)])

    def test_all_points_of_a_box(self):
        chance, many = random.Random(62), set()
        for system, top in small_systems(63, 300):
            top = chance.randint(0, 20 if system.dimensions == 1 else 4)
            for name in system.names:
                points = reckoned.box(system.dimensions, top)
                unready = [point for point in points if not is_ready(system, (name, point))]
                least = [point for point in unready if not self.has_lesser(point, unready)]
                self.assertEqual(least_unready(system, name, top), least)
                many.add(len(least))
        self.assertGreater(max(many), 2)

    def has_lesser(self, point, points):
        return any(other != point and all(one <= two for one, two in zip(other, point)) for other in points)


class ErrorsTest(unittest.TestCase):
    def test_cell_check(self):
        for call in (is_ready, endless_way, lambda system, cell: shows_endless(system, cell, ([], 0))):
            for point in ((), (0,), (0, 0, 0), (-1, 0), (0, -1)):
                self.assertEqual(error_of(call, both(), ("a", point)), ("InvalidCell", ("a", point)))
                self.assertEqual(error_of(call, both(), ("b", point)), ("UnknownTable", "b"))
            self.assertEqual(error_of(call, both(), ("b", (0, 0))), ("UnknownTable", "b"))
            self.assertIsNone(error_of(call, both(), ("a", (0, 0))))

    def test_least_unready(self):
        self.assertEqual(error_of(least_unready, both(), "b", 2), ("UnknownTable", "b"))
        self.assertEqual(error_of(least_unready, both(), "a", -1), ("InvalidNumber", -1))
        self.assertEqual(error_of(least_unready, both(), "", -10 ** 40), ("UnknownTable", ""))
        self.assertIsNone(error_of(least_unready, both(), "a", 0))


if __name__ == "__main__":
    unittest.main()
