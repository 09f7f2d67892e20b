"""[1] and [10], and [4] together with them: what holds for all systems, and what changes of a system do."""

import random
import unittest

import reckoned
from samples import both, error_of, nest, opposed_system, pair, random_cells, round_of, single, small_systems

from farreads.bounds import bound_numbers, bound_worth, flow_weights, flow_worth, way_bound
from farreads.cells import reads_from
from farreads.cuts import fewest_cuts, must_go
from farreads.far import far_value
from farreads.levels import count_levels, is_schedule, schedule, stuck_reads
from farreads.readings import read_system
from farreads.ready import endless_way, is_ready, least_unready, shows_endless
from farreads.sheets import Sheet
from farreads.shifts import barring_walk, bars, greatest_shifts, shifted
from farreads.systems import System
from farreads.texts import show_system
from farreads.values import value, values_in
from farreads.walks import blocks, closed_walk
from farreads.ways import a_longest_way, longest_way, needed


def told(system, cell):
    """All that does not rest on constants, factors and the modulus."""
    if not is_ready(system, cell):
        return None
    return [longest_way(system, cell), a_longest_way(system, cell), needed(system, cell)]


def rows_of(system):
    return [(name, system.constant(name), system.reads(name)) for name in system.names]


class SchedulesTest(unittest.TestCase):
    def test_where_there_is_a_schedule_all_cells_are_ready(self):
        chance, seen = random.Random(90), 0
        for system, top in small_systems(91, 500):
            if schedule(system) is not None:
                seen += 1
                for cell in random_cells(chance, system, top, 2):
                    self.assertIs(is_ready(system, cell), True)
                for name in system.names:
                    self.assertEqual(least_unready(system, name, 3), [])
        self.assertGreater(seen, 150)

    def test_where_schedules_need_several_levels(self):
        chance, seen = random.Random(92), 0
        for _ in range(900):
            system = opposed_system(chance, 2)
            if len(system) < 4 and (count_levels(system) or 0) > 1:
                seen += 1
                for cell in random_cells(chance, system, 6, 2):
                    self.assertIs(is_ready(system, cell), True)
        self.assertGreater(seen, 15)
        for name in nest().names:
            self.assertEqual(least_unready(nest(), name, 1), [])

    def test_where_there_is_none_far_cells_are_not_ready(self):
        seen = 0
        for system, top in small_systems(93, 300):
            if system.dimensions == 1 and schedule(system) is None:
                seen += 1
                left = reckoned.edges(system)
                while len(reckoned.stuck(1, left)) < len(left):
                    left = {read: left[read] for read in reckoned.stuck(1, left)}
                for name, _ in left:
                    self.assertIs(is_ready(system, (name, (top,))), False)
        self.assertGreater(seen, 50)

    def test_where_there_is_none_near_cells_may_be_ready(self):
        for system in (single((2, -2), (-2, 2)), both(), round_of((3,), (-3,))):
            self.assertIsNone(schedule(system))
            self.assertIs(is_ready(system, ("a", (0,) * system.dimensions)), True)
            self.assertIs(is_ready(system, ("a", (6,) * system.dimensions)), False)


class PairsTest(unittest.TestCase):
    def test_endless_pairs_and_ready_cells(self):
        chance, seen = random.Random(94), []
        for system, top in small_systems(95, 200):
            for cell in random_cells(chance, system, top, 1):
                found = endless_way(system, cell)
                seen.append(found is None)
                if found is None:
                    self.assertIs(is_ready(system, cell), True)
                    self.assertTrue(all(is_ready(system, each) for each in needed(system, cell)[:20]))
                else:
                    self.assertIs(shows_endless(system, cell, found), True)
                    self.assertTrue(all(not is_ready(system, each) for each in found[0][:20]))
        self.assertGreater(min(seen.count(True), seen.count(False)), 100)

    def test_cells_above_one_that_is_not_ready(self):
        chance, seen = random.Random(96), 0
        for system, top in small_systems(97, 300):
            for name, point in random_cells(chance, system, top, 3):
                above = tuple(chance.randint(place, top) for place in point)
                if not is_ready(system, (name, point)):
                    self.assertIs(is_ready(system, (name, above)), False)
                    seen += 1
                if is_ready(system, (name, above)):
                    self.assertIs(is_ready(system, (name, point)), True)
        self.assertGreater(seen, 150)

    def test_cells_above_the_least(self):
        for system, top in small_systems(98, 150):
            top = 20 if system.dimensions == 1 else 4
            for name in system.names:
                least = least_unready(system, name, top)
                for point in reckoned.box(system.dimensions, top):
                    above = any(all(one <= other for one, other in zip(low, point)) for low in least)
                    self.assertIs(is_ready(system, (name, point)), not above)


class ChangesTest(unittest.TestCase):
    def cells(self, seed, many):
        chance = random.Random(seed)
        for system, top in small_systems(seed + 1, many):
            for cell in random_cells(chance, system, top, 0):
                yield chance, system, cell

    def test_renamed(self):
        new = ["z", "yy", "a", "x", "b", "c"]
        for _, system, (name, point) in self.cells(100, 100):
            names = dict(zip(system.names, new))
            other = system.renamed(names)
            self.assertIs(is_ready(other, (names[name], point)), is_ready(system, (name, point)))
            self.assertEqual(values_in(other, names[name], 2), values_in(system, name, 2))
            self.assertEqual(least_unready(other, names[name], 2), least_unready(system, name, 2))
            if is_ready(system, (name, point)):
                way = [(names[each], place) for each, place in a_longest_way(system, (name, point))]
                self.assertEqual(a_longest_way(other, (names[name], point)), way)
                self.assertEqual(value(other, (names[name], point)), value(system, (name, point)))

    def test_exchanged(self):
        for _, system, (name, point) in self.cells(102, 100):
            axes = tuple(range(system.dimensions))[::-1]
            other = system.exchanged(axes)
            self.assertIs(is_ready(other, (name, point[::-1])), is_ready(system, (name, point)))
            self.assertEqual(
                least_unready(other, name, 2), sorted(low[::-1] for low in least_unready(system, name, 2))
            )
            if is_ready(system, (name, point)):
                self.assertEqual(longest_way(other, (name, point[::-1])), longest_way(system, (name, point)))
                self.assertEqual(value(other, (name, point[::-1])), value(system, (name, point)))

    def test_beside(self):
        for _, system, cell in self.cells(104, 100):
            if len(system) == 6 or len(system.all_reads()) == 12:
                continue
            reads = [("z", (0,) * system.dimensions, 1)]
            other = system.beside(System(system.dimensions, [("z", 0, reads)], system.modulus))
            self.assertEqual(told(other, cell), told(system, cell))
            self.assertIs(is_ready(other, ("z", cell[1])), False)
            self.assertEqual(values_in(other, cell[0], 2), values_in(system, cell[0], 2))

    def test_without(self):
        for chance, system, cell in self.cells(106, 100):
            other = system.without([chance.choice(system.all_reads())])
            if is_ready(system, cell):
                self.assertIs(is_ready(other, cell), True)
                self.assertLessEqual(longest_way(other, cell), longest_way(system, cell))
            empty = system.without(system.all_reads())
            self.assertEqual(told(empty, cell), [0, [cell], [cell]])
            self.assertEqual(value(empty, cell), system.constant(cell[0]) % system.modulus)

    def test_constants_factors_and_the_modulus_matter_to_values_alone(self):
        for chance, system, cell in self.cells(108, 100):
            rows = []
            for name in system.names:
                reads = [(table, vector, chance.choice([-9, 1, 3])) for table, vector, _ in system.reads(name)]
                rows.append((name, chance.randint(-99, 99), reads))
            other = System(system.dimensions, rows, chance.randint(2, 99))
            self.assertEqual(told(other, cell), told(system, cell))
            self.assertEqual(endless_way(other, cell), endless_way(system, cell))
            self.assertEqual(least_unready(other, cell[0], 2), least_unready(system, cell[0], 2))
            self.assertEqual(stuck_reads(other), stuck_reads(system))

    def test_values_under_another_modulus(self):
        for _, system, cell in self.cells(110, 100):
            if is_ready(system, cell):
                other = System(system.dimensions, rows_of(system), system.modulus * 3)
                self.assertEqual(value(other, cell) % system.modulus, value(system, cell))

    def test_pair_after_changes(self):
        system = pair(1000003).beside(both().renamed({"a": "c"})).exchanged((1, 0)).without([("c", 1)])
        self.assertEqual(count_levels(system), 2)
        self.assertEqual(longest_way(system, ("a", (0, 1))), 4)


def far_worth(system, name):
    """What far_value returns far out, or the error."""
    error = error_of(far_value, system, name, 10 ** 30)
    return far_value(system, name, 10 ** 30) if error is None else error


def cell_answers(system, cell):
    """All that is told of a cell, as far as there is one answer alone."""
    name, _ = cell
    found = [reads_from(system, cell), told(system, cell), least_unready(system, name, 2), values_in(system, name, 2)]
    if system.dimensions == 1 and len(system) <= 3:
        found.append(far_worth(system, name))
    return found + [way_bound(system, cell), value(system, cell) if is_ready(system, cell) else None]


def system_answers(system):
    """All that is told of a system, as far as there is one answer alone."""
    found = [count_levels(system), stuck_reads(system), greatest_shifts(system), must_go(system)]
    if len(system.all_reads()) <= 7:
        found.append(fewest_cuts(system))
    return found + [closed_walk(system) is None, barring_walk(system) is None, list(Sheet(system).unready())]


def any_answers(system, cell):
    """All that may have several answers."""
    return [
        endless_way(system, cell),
        schedule(system),
        closed_walk(system),
        bound_numbers(system, cell),
        flow_weights(system, cell),
        barring_walk(system),
    ]


class WholeProgramTest(unittest.TestCase):
    def cells(self, seed, many):
        chance = random.Random(seed)
        for system, top in small_systems(seed + 1, many):
            for cell in random_cells(chance, system, top, 0)[:2]:
                yield chance, system, cell

    def test_tables_in_another_order(self):
        for chance, system, cell in self.cells(120, 80):
            rows = rows_of(system)
            chance.shuffle(rows)
            other = System(system.dimensions, rows, system.modulus)
            self.assertTrue(other == system)
            self.assertEqual(show_system(other), show_system(system))
            self.assertEqual(cell_answers(other, cell), cell_answers(system, cell))
            self.assertEqual(system_answers(other), system_answers(system))
            self.assertEqual(any_answers(other, cell), any_answers(system, cell))

    def test_the_same_system_from_its_text(self):
        for _, system, cell in self.cells(122, 40):
            other = read_system(show_system(system))
            self.assertEqual(cell_answers(other, cell), cell_answers(system, cell))
            self.assertEqual(any_answers(other, cell), any_answers(system, cell))

    def test_names_exchanged(self):
        for _, system, (name, point) in self.cells(124, 80):
            # In the same order, so that nothing is listed otherwise.
            names = dict(zip(system.names, ["ab", "b", "ba", "q", "x", "yy"]))
            back = {new: old for old, new in names.items()}
            other, cell = system.renamed(names), (names[name], point)
            self.assertEqual(stuck_reads(other), [(names[each], at) for each, at in stuck_reads(system)])
            self.assertEqual(must_go(other), [(names[each], at) for each, at in must_go(system)])
            self.assertEqual(needed(other, cell) if is_ready(other, cell) else None, self.needed(system, (name, point), names))
            self.assertEqual(cell_answers(other.renamed(back), (name, point)), cell_answers(system, (name, point)))
            self.assertEqual(way_bound(other, cell), way_bound(system, (name, point)))
            self.assertEqual(count_levels(other), count_levels(system))
            if system.dimensions == 1 and len(system) <= 3:
                self.assertEqual(far_worth(other, names[name]), far_worth(system, name))

    def needed(self, system, cell, names):
        if not is_ready(system, cell):
            return None
        return [(names[name], point) for name, point in needed(system, cell)]

    def test_coordinates_exchanged(self):
        for _, system, (name, point) in self.cells(126, 80):
            axes = tuple(range(system.dimensions))[::-1]
            other, cell = system.exchanged(axes), (name, point[::-1])
            one, before = system_answers(other), system_answers(system)
            for place in (0, 1, 3, -3, -2):
                self.assertEqual(one[place], before[place])
            self.assertEqual(way_bound(other, cell), way_bound(system, (name, point)))
            self.assertEqual(sorted(low[::-1] for low in least_unready(other, name, 2)), least_unready(system, name, 2))

    def test_another_system_beside(self):
        for _, system, cell in self.cells(128, 80):
            if len(system) < 3 and len(system.all_reads()) < 12:
                for step in (0, 1):
                    single_read = [("zz", (step,) * system.dimensions, 1)]
                    other = system.beside(System(system.dimensions, [("zz", 3, single_read)], system.modulus))
                    self.assertEqual(cell_answers(other, cell)[:4], cell_answers(system, cell)[:4])
                    self.assertEqual(way_bound(other, cell), way_bound(system, cell))
                    self.assertIs(count_levels(other) is None, step == 0 or count_levels(system) is None)
                    if step and system.dimensions == 1:
                        self.assertEqual(far_worth(other, cell[0]), far_worth(system, cell[0]))

    def test_a_read_left_out(self):
        for chance, system, cell in self.cells(130, 80):
            read = chance.choice(system.all_reads())
            other = system.without([read])
            if is_ready(system, cell):
                self.assertIs(is_ready(other, cell), True)
            if schedule(system) is not None:
                self.assertLessEqual(count_levels(other), count_levels(system))
            if greatest_shifts(system) is not None:
                more, less = greatest_shifts(other), greatest_shifts(system)
                self.assertTrue(all(one >= two for name in less for one, two in zip(more[name], less[name])))

    def test_either_the_one_or_the_other(self):
        for _, system, cell in self.cells(132, 80):
            levels, walk = schedule(system), closed_walk(system)
            self.assertEqual([is_schedule(system, levels), blocks(system, walk)], [walk is None, levels is None])
            shift, round_trip = greatest_shifts(system), barring_walk(system)
            self.assertEqual([shift is None, bars(system, round_trip)], [round_trip is not None] * 2)
            if shift is not None:
                self.assertEqual(count_levels(shifted(system, shift)), count_levels(system))
            bound = way_bound(system, cell)
            self.assertEqual(bound_worth(system, cell, bound_numbers(system, cell)), bound)
            self.assertEqual(flow_worth(system, cell, flow_weights(system, cell)), bound)
            self.assertIs(endless_way(system, cell) is None, is_ready(system, cell))

    def test_with_a_schedule_no_cell_of_a_sheet_is_unready(self):
        for _, system, _ in self.cells(134, 40):
            sheet = Sheet(system)
            for read in fewest_cuts(system)[::-1] if len(system.all_reads()) <= 7 else system.all_reads()[::-1]:
                sheet.drop(*read)
            self.assertEqual(list(sheet.unready()), [])
            self.assertIsNotNone(sheet.put("a", 1)[0])


if __name__ == "__main__":
    unittest.main()
