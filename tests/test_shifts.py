"""Shifts of tables, with points [4], [8] and [10]; walks that bar them."""

import random
import unittest

import reckoned
from samples import (
    LETTERS,
    bent_walks,
    both,
    error_of,
    great_systems,
    grow,
    nest,
    pair,
    random_system,
    random_walk,
    round_of,
    single,
    trio,
)

from farreads.levels import count_levels, is_schedule, schedule, stuck_reads
from farreads.shifts import barring_walk, bars, greatest_shifts, shifted
from farreads.systems import System
from farreads.walks import blocks, closed_walk, walk_sum

FAR = 10 ** 40


def chain():
    """The system of the example in the document."""
    return System(1, [("a", 0, [("b", (-3,), 1)]), ("b", 1, [("a", (4,), 1)])])


def chance_systems(seed, many):
    """Systems by chance, in half of which most integers of vectors are not below 0."""
    chance = random.Random(seed)
    for number in range(many):
        system = random_system(chance, 1 + number % 3, 6, 12, 5)
        if number % 2:
            rows = []
            for name in system.names:
                reads = []
                for table, vector, factor in system.reads(name):
                    vector = tuple(abs(step) if chance.random() < 0.9 else step for step in vector)
                    reads.append((table, vector, factor))
                rows.append((name, system.constant(name), reads))
            system = System(system.dimensions, rows, system.modulus)
        yield system
    yield from great_systems(seed, many // 4)


def random_shift(chance, system, size):
    return {name: tuple(chance.randint(-size, size) for _ in range(system.dimensions)) for name in system.names}


def negative(shift):
    return {name: tuple(-step for step in shift[name]) for name in shift}


def vectors(system):
    return [edge[2] for edge in reckoned.edges(system).values()]


class ShiftedTest(unittest.TestCase):
    def test_known(self):
        moved = shifted(chain(), {"a": (-3,), "b": (0,)})
        self.assertEqual([moved.reads("a"), moved.reads("b")], [[("b", (0,), 1)], [("a", (1,), 1)]])
        moved = shifted(pair(), {"a": (1, 2), "b": (10, -20)})
        self.assertEqual(moved.reads("a"), [("a", (1, -1), 1), ("b", (9, -22), 1)])
        self.assertEqual(moved.reads("b"), [("b", (-1, 1), 1), ("a", (-9, 23), 1)])

    def test_nothing_else_changes(self):
        moved = shifted(trio(), {"a": (5,), "b": (-7,), "c": (100,)})
        self.assertEqual([moved.dimensions, moved.modulus, moved.names], [1, 1000003, ["a", "b", "c"]])
        for name in "abc":
            self.assertEqual(moved.constant(name), trio().constant(name))
            self.assertEqual([each[::2] for each in moved.reads(name)], [each[::2] for each in trio().reads(name)])

    def test_by_chance(self):
        chance = random.Random(300)
        for system in chance_systems(301, 300):
            shift = random_shift(chance, system, chance.choice([1, 9, FAR]))
            moved = shifted(system, shift)
            rows = []
            for name in system.names:
                reads = []
                for table, vector, factor in system.reads(name):
                    own, other = shift[name], shift[table]
                    reads.append((table, tuple(vector[at] - own[at] + other[at] for at in range(len(vector))), factor))
                rows.append((name, system.constant(name), reads))
            self.assertTrue(moved == System(system.dimensions, rows, system.modulus))
            self.assertTrue(shifted(moved, negative(shift)) == system)

    def test_the_same_shift_for_all_tables_changes_nothing(self):
        for system in (pair(), nest(), trio(), both()):
            shift = {name: (7, -8, 9)[:system.dimensions] for name in system.names}
            self.assertTrue(shifted(system, shift) == system)

    def test_kinds(self):
        moved = shifted(pair(), {"a": (1, 2), "b": (10, -20)})
        self.assertIsInstance(moved, System)
        for read in moved.reads("a"):
            self.assertEqual([type(read), type(read[1]), type(read[1][0])], [tuple, tuple, int])

    def test_what_a_shift_keeps(self):
        chance = random.Random(302)
        for system in chance_systems(303, 200):
            moved = shifted(system, random_shift(chance, system, chance.choice([1, 9, FAR])))
            self.assertEqual(count_levels(moved), count_levels(system))
            self.assertEqual(stuck_reads(moved), stuck_reads(system))
            walk = closed_walk(system)
            if walk is not None:
                self.assertIs(blocks(moved, walk), True)
                self.assertEqual(walk_sum(moved, walk), walk_sum(system, walk))
                self.assertTrue(reckoned.walk_blocks(system, closed_walk(moved)))
            else:
                self.assertIsNone(closed_walk(moved))
                self.assertIs(is_schedule(moved, schedule(moved)), True)
            walk = random_walk(chance, system, 9)
            self.assertIs(blocks(moved, walk), blocks(system, walk))
            self.assertIs(bars(moved, walk), bars(system, walk))

    def test_several_shifts(self):
        chance = random.Random(304)
        system, total = pair(), {"a": (0, 0), "b": (0, 0)}
        moved = system
        for _ in range(50):
            shift = random_shift(chance, system, FAR)
            moved = shifted(moved, shift)
            total = {name: tuple(map(sum, zip(total[name], shift[name]))) for name in total}
        self.assertTrue(moved == shifted(system, total))
        self.assertEqual(count_levels(moved), 2)

    def test_arguments_and_results(self):
        system, shift = pair(), {"b": (10, -20), "a": (1, 2)}
        moved = shifted(shifts=shift, system=system)
        self.assertTrue(moved == shifted(system, shift))
        self.assertEqual([list(shift.items()), system == pair()], [[("b", (10, -20)), ("a", (1, 2))], True])
        before = moved.reads("a")
        shift["a"] = (0, 0)
        moved.reads("a").clear()
        self.assertEqual(moved.reads("a"), before)


class InvalidShiftsTest(unittest.TestCase):
    def check(self, system, shifts, name):
        before = dict(shifts)
        self.assertEqual(error_of(shifted, system, shifts), ("InvalidShifts", name))
        self.assertEqual(shifts, before)

    def test_names_left_out(self):
        self.check(pair(), {}, "a")
        self.check(pair(), {"b": (0, 0)}, "a")
        self.check(pair(), {"a": (0, 0)}, "b")
        self.check(trio(), {"c": (0,), "a": (0,)}, "b")
        self.check(System(1, [("z", 0, [])]), {}, "z")

    def test_another_number_of_integers(self):
        for vector in ((), (0,), (0, 0, 0)):
            self.check(pair(), {"a": vector, "b": (0, 0)}, "a")
            self.check(pair(), {"b": vector, "a": (0, 0)}, "b")
            self.check(pair(), {"b": vector, "a": vector}, "a")

    def test_keys_that_are_no_table(self):
        right = {"b": (0, 0), "a": (0, 0)}
        for name in ("c", "", "A", "aa", "abcdefghi"):
            self.check(pair(), {**right, name: (0, 0)}, name)
            self.check(pair(), {name: (), **right}, name)

    def test_the_first_name_of_several(self):
        right = {"m": (0,), "k": (0,)}
        system = System(1, [("m", 0, []), ("k", 0, [])])
        self.check(system, {**right, "z": (0,), "b": (0,)}, "b")
        self.check(system, {"z": (0,), "l": (0,), **right}, "l")
        self.check(system, {"z": (0,), "a": (0,), "k": (0,)}, "m")
        self.check(system, {"a": (0,), "m": (0, 0), "k": ()}, "k")
        self.check(system, {"a": (0,), "m": ()}, "k")
        self.check(system, {"a": (0,), "k": (0,), "m": ()}, "m")


class GreatestShiftsTest(unittest.TestCase):
    def test_known(self):
        self.assertEqual(greatest_shifts(chain()), {"a": (-3,), "b": (0,)})
        self.assertEqual(greatest_shifts(grow()), {"a": (0,), "u": (0,), "w": (0,)})
        self.assertEqual(greatest_shifts(round_of((-5,), (-5,), (12,))), {"a": (-10,), "b": (-5,), "c": (0,)})
        self.assertEqual(greatest_shifts(round_of((3, -2), (-3, 2))), {"a": (0, -2), "b": (-3, 0)})
        self.assertEqual(greatest_shifts(System(3, [("a", 0, [])])), {"a": (0, 0, 0)})
        rows = [("a", 0, [("b", (-1,), 1), ("b", (-4,), 1), ("c", (0,), 1)]), ("b", 0, []), ("c", 0, [("b", (-2,), 1)])]
        self.assertEqual(greatest_shifts(System(1, rows)), {"a": (-4,), "b": (0,), "c": (-2,)})

    def test_none(self):
        for system in (pair(), both(), nest(), trio(), single((-1,)), single((5, 5, -1)), round_of((4,), (-5,))):
            self.assertIsNone(greatest_shifts(system))

    def test_exactly_one_of_both(self):
        seen = []
        for system in chance_systems(310, 900):
            shift, walk = greatest_shifts(system), barring_walk(system)
            self.assertEqual(shift, reckoned.least_sums(system))
            self.assertIs(shift is None, walk is not None)
            if walk is not None:
                self.assertTrue(reckoned.walk_bars(system, walk))
                self.assertIs(bars(system, walk), True)
            seen.append(walk is None)
        self.assertGreater(min(seen.count(True), seen.count(False)), 150)

    def test_no_vector_has_an_integer_below_zero(self):
        seen = 0
        for system in chance_systems(311, 300):
            shift = greatest_shifts(system)
            if shift is not None:
                seen += 1
                self.assertEqual(list(shift), system.names)
                moved = shifted(system, shift)
                self.assertTrue(all(step >= 0 for vector in vectors(moved) for step in vector))
                self.assertTrue(all(step <= 0 for vector in shift.values() for step in vector))
                self.assertEqual(greatest_shifts(moved), {name: (0,) * system.dimensions for name in system.names})
        self.assertGreater(seen, 50)

    def test_one_more_at_any_place_is_too_much(self):
        for system in chance_systems(312, 200):
            shift = greatest_shifts(system) or {}
            for name, vector in shift.items():
                for axis in range(system.dimensions):
                    more = {**shift, name: vector[:axis] + (vector[axis] + 1,) + vector[axis + 1:]}
                    low = any(step < 0 for vector in vectors(shifted(system, more)) for step in vector)
                    self.assertTrue(low or more[name][axis] > 0)

    def test_shifted_systems(self):
        chance, seen = random.Random(313), 0
        for system in chance_systems(314, 200):
            if greatest_shifts(system) is not None:
                seen += 1
                moved = shifted(system, random_shift(chance, system, chance.choice([3, FAR])))
                shift = greatest_shifts(moved)
                self.assertEqual(shift, reckoned.least_sums(moved))
                self.assertTrue(all(step >= 0 for vector in vectors(shifted(moved, shift)) for step in vector))
                self.assertTrue(shifted(shifted(moved, shift), negative(shift)) == moved)
        self.assertGreater(seen, 40)

    def test_long_chains(self):
        self.assertEqual(greatest_shifts(round_of(*[(-5,)] * 5, (25,))), dict(zip("abcdef", [(-25,), (-20,), (-15,), (-10,), (-5,), (0,)])))
        backwards = System(1, [(LETTERS[at], 0, [(LETTERS[at - 1], (-5,), 1)] if at else []) for at in range(6)])
        self.assertEqual(greatest_shifts(backwards), dict(zip("abcdef", [(-5 * at,) for at in range(6)])))

    def test_names_and_coordinates_do_not_matter(self):
        chance = random.Random(315)
        for system in chance_systems(316, 150):
            shift = greatest_shifts(system)
            names = dict(zip(system.names, chance.sample(LETTERS, len(system))))
            axes = tuple(chance.sample(range(system.dimensions), system.dimensions))
            renamed, exchanged = greatest_shifts(system.renamed(names)), greatest_shifts(system.exchanged(axes))
            if shift is None:
                self.assertEqual([renamed, exchanged], [None, None])
            else:
                self.assertEqual(renamed, {names[name]: shift[name] for name in shift})
                self.assertEqual(exchanged, {name: tuple(shift[name][axis] for axis in axes) for name in shift})

    def test_a_new_dict(self):
        system = chain()
        greatest_shifts(system).clear()
        self.assertEqual(greatest_shifts(system=system), {"a": (-3,), "b": (0,)})
        self.assertEqual({type(vector) for vector in greatest_shifts(system).values()}, {tuple})


class BarringWalkTest(unittest.TestCase):
    def test_none(self):
        for system in (chain(), grow(), System(2, [("a", 0, [])]), single((0,)), single((0, 5)), round_of((-5, 3), (5, -3))):
            self.assertIsNone(barring_walk(system))

    def test_known(self):
        for vector in ((-1,), (5, -1), (-1, 5), (5, 5, -1), (0, -5, 0)):
            self.assertTrue(reckoned.walk_bars(single(vector), barring_walk(single(vector))))
        for system in (pair(), both(), nest(), trio(), round_of((4,), (-5,)), round_of((5,), (5,), (5,), (-5,), (-5,), (-5,))):
            self.assertIs(barring_walk(system) is None, greatest_shifts(system) is not None)
        walk = barring_walk(round_of((5,), (5,), (5,), (-5,), (-5,), (-6,)))
        self.assertEqual(sorted(walk), [(name, 0) for name in "abcdef"])

    def test_a_single_walk_that_bars(self):
        rows = [("a", 0, [("b", (1, 1), 1), ("a", (0, 0), 1)]), ("b", 0, [("a", (0, 0), 1), ("a", (2, -2), 1), ("b", (1, 0), 1)])]
        self.assertEqual(set(barring_walk(System(2, rows))), {("a", 0), ("b", 1)})

    def test_long_rounds(self):
        for at in range(6):
            for axis in range(3):
                steps = [[5, 5, 5], [-5, -5, -5]] * 3
                steps[at][axis] -= 1
                walk = barring_walk(round_of(*map(tuple, steps)))
                self.assertTrue(reckoned.walk_bars(round_of(*map(tuple, steps)), walk))

    def test_a_new_list(self):
        system = pair()
        walk = list(barring_walk(system))
        barring_walk(system).clear()
        self.assertEqual(barring_walk(system=system), walk)
        self.assertEqual([type(barring_walk(system)), {type(read) for read in walk}], [list, {tuple}])


class BarsTest(unittest.TestCase):
    def check(self, system, walk, right):
        self.assertIs(bars(system, walk), right)

    def test_sums(self):
        for vector, right in (
            ((0,), False),
            ((1,), False),
            ((-1,), True),
            ((0, 0), False),
            ((5, -1), True),
            ((-1, 5), True),
            ((5, 5, -1), True),
            ((5, -1, 5), True),
            ((-1, 0, 0), True),
            ((0, 1, 0), False),
        ):
            self.check(single(vector), [("a", 0)], right)
            self.check(single(vector), [("a", 0)] * 4, right)

    def test_empty_and_none(self):
        for system in (single((-1,)), chain(), System(1, [("a", 0, [])])):
            self.check(system, [], False)
        self.check(chain(), barring_walk(chain()), False)

    def test_open_walks(self):
        system = round_of((-1,), (-1,), (-1,))
        self.check(system, [("a", 0), ("b", 0), ("c", 0)], True)
        self.check(system, [("b", 0), ("c", 0), ("a", 0)], True)
        self.check(system, [("c", 0), ("b", 0), ("a", 0)], False)
        for walk in ([("a", 0)], [("a", 0), ("b", 0)], [("a", 0), ("c", 0)], [("a", 0), ("b", 0), ("c", 0), ("a", 0)]):
            self.check(system, walk, False)

    def test_reads_that_are_none(self):
        system = round_of((-1,), (-1,))
        for read in (("a", 1), ("a", -1), ("c", 0), ("", 0), ("b", FAR)):
            for walk in ([read], [("a", 0), ("b", 0), read], [read, ("a", 0), ("b", 0)]):
                self.check(system, walk, False)

    def test_by_name(self):
        self.assertIs(bars(reads=[("a", 0)], system=single((-1,))), True)

    def test_bent_walks(self):
        chance, seen = random.Random(317), []
        for system in chance_systems(318, 400):
            walk = barring_walk(system) or random_walk(chance, system, 5)
            before = list(walk)
            for bent in bent_walks(chance, system, walk):
                seen.append(reckoned.walk_bars(system, bent))
                self.check(system, bent, seen[-1])
            self.assertEqual(walk, before)
        self.assertGreater(min(seen.count(True), seen.count(False)), 1000)


if __name__ == "__main__":
    unittest.main()
