"""[6]: values far out, in one dimension."""

import random
import unittest

import reckoned
from samples import LETTERS, error_of, grow, random_system, round_of, single

from farreads.far import far_value
from farreads.levels import schedule
from farreads.shifts import greatest_shifts, shifted
from farreads.systems import System
from farreads.values import value, values_in

FAR = 10 ** 30


def with_modulus(system, modulus):
    rows = [(name, system.constant(name), system.reads(name)) for name in system.names]
    return System(system.dimensions, rows, modulus)


def far_systems(seed, many):
    """Systems of one dimension with a schedule, of up to three tables; half of them have integers below 0 in vectors."""
    chance = random.Random(seed)
    found = 0
    while found < many:
        system = random_system(chance, 1, 3, 12, 2, 1)
        if found % 2:
            # Shifted systems keep their schedules; not all of them have small vectors.
            system = shifted(system, {name: (chance.randint(-2, 2),) for name in system.names})
        vectors = [edge[2][0] for edge in reckoned.edges(system).values()]
        if schedule(system) is None or max(map(abs, vectors)) > 2 or found % 2 and min(vectors) >= 0:
            continue
        found += 1
        yield with_modulus(system, chance.choice([2, 2, 3, 4, 6, 10, 97, 1000003, 2 * 10 ** 6, chance.randint(2, 2 * 10 ** 6)]))


def row_values(system, top):
    """A dict from names to the lists of the values at all places to a top, reckoned from the cells up."""
    cells = [(name, (place,)) for name in system.names for place in range(top + 1)]
    found = reckoned.lengths_and_values(system, *cells)[1]
    return {name: [found[(name, (place,))] for place in range(top + 1)] for name in system.names}


def come_round(rows, size, place):
    """The place to a few hundred at which all values are those of a place far out; None if no rows come again."""
    lines = list(zip(*rows.values()))
    seen = {}
    for at in range(10, len(lines) - size):
        window = tuple(lines[at:at + size])
        if window in seen:
            first = seen[window]
            return first + (place - first) % (at - first)
        seen[window] = at
    return None


class KnownTest(unittest.TestCase):
    def test_fibonacci(self):
        one, other = 0, 1
        for place in range(60):
            one, other = other, one + other
            self.assertEqual(far_value(grow(), "a", place), one % 1000)
        # The last three digits come again after 1500 places.
        self.assertEqual(far_value(grow(), "a", FAR), far_value(grow(), "a", 1000))
        self.assertEqual(far_value(grow(), "a", FAR), far_value(grow(), "a", FAR % 1500))
        self.assertEqual([far_value(grow(), name, FAR) for name in "uw"], [0, 1])
        self.assertEqual([far_value(grow(), name, 0) for name in "auw"], [1, 1, 1])

    def test_constants(self):
        system = System(1, [("a", -5, []), ("b", 99, [("a", (2,), 3)]), ("c", 1, [("b", (-2,), -1)])], 97)
        for place, values in ((0, (92, 2, 14)), (1, (92, 2, 14)), (2, (92, 84, 14)), (FAR, (92, 84, 14))):
            self.assertEqual(tuple(far_value(system, name, place) for name in "abc"), values)

    def test_powers(self):
        for factor, modulus in ((2, 97), (-9, 1000003), (7, 2 * 10 ** 6), (3, 2), (2, 64)):
            system = System(1, [("a", 0, [("a", (1,), factor), ("b", (0,), 1), ("b", (1,), -1)]), ("b", 1, [])], modulus)
            for place in (0, 1, 2, 3, 10, 999, FAR):
                self.assertEqual(far_value(system, "a", place), pow(factor, place, modulus))

    def test_sums(self):
        system = System(1, [("a", 3, [("a", (1,), 1)]), ("b", 0, [("b", (2,), 1), ("a", (0,), 1)])], 10 ** 6 + 3)
        for place in (0, 1, 5, 1000, FAR, FAR + 1):
            self.assertEqual(far_value(system, "a", place), 3 * (place + 1) % (10 ** 6 + 3))
        self.assertEqual(far_value(system, "b", 4), 3 + 9 + 15)
        half = FAR // 2 + 1
        self.assertEqual(far_value(system, "b", FAR), 3 * half * half % (10 ** 6 + 3))

    def test_vectors_below_zero(self):
        system = round_of((-2,), (2,), (1,))
        rows = row_values(system, 60)
        for name in "abc":
            self.assertEqual([far_value(system, name, place) for place in range(61)], rows[name])
        system = System(1, [("a", 1, [("b", (-2,), 5)]), ("b", 2, [("c", (-2,), 7)]), ("c", 3, [])], 1000)
        self.assertEqual([far_value(system, name, FAR) for name in "abc"], [116, 23, 3])

    def test_a_table_that_others_do_not_reach(self):
        system = System(1, [("a", 1, []), ("b", 1, [("b", (1,), 2)])], 1000)
        self.assertEqual([far_value(system, "a", place) for place in (0, 1, FAR)], [1, 1, 1])


class NearTest(unittest.TestCase):
    def test_beside_value(self):
        chance = random.Random(330)
        for system in far_systems(331, 120):
            name = chance.choice(system.names)
            for place in [0, 1, 2, 3, 4, 5, 6, 7, 8, 100] + [chance.randint(0, 100) for _ in range(4)]:
                self.assertEqual(far_value(system, name, place), value(system, (name, (place,))))

    def test_beside_values_in(self):
        for system in far_systems(332, 120):
            for name in system.names:
                worths = values_in(system, name, 20)
                self.assertEqual([far_value(system, name, place) for place in range(21)], [worths[(at,)] for at in range(21)])

    def test_places_to_1500(self):
        chance = random.Random(333)
        for system in far_systems(334, 40):
            rows = row_values(system, 1500)
            for name in system.names:
                for place in [0, 1, 2, 10, 1499, 1500] + [chance.randint(0, 1500) for _ in range(12)]:
                    worth = far_value(system, name, place)
                    self.assertEqual(worth, rows[name][place])
                    self.assertIs(type(worth), int)

    def test_systems_that_are_a_little_greater(self):
        chance, seen = random.Random(335), 0
        while seen < 25:
            system = random_system(chance, 1, 6, 12, 5, 1)
            system = shifted(system, {name: (chance.randint(-3, 3),) for name in system.names})
            if schedule(system) is not None:
                seen += 1
                for place in (0, 5, 20, 40, 90, 130):
                    name = chance.choice(system.names)
                    worth = reckoned.lengths_and_values(system, (name, (place,)))[1][(name, (place,))]
                    self.assertEqual(far_value(system, name, place), worth)


class FarOutTest(unittest.TestCase):
    def test_where_the_last_rows_come_again(self):
        seen, chance = 0, random.Random(336)
        for system in far_systems(337, 120):
            if system.modulus <= 10:
                rows = row_values(system, 700)
                for place in (FAR, FAR - 1, chance.randint(0, FAR)):
                    near = come_round(rows, 20, place)
                    if near is not None:
                        seen += 1
                        for name in system.names:
                            self.assertEqual(far_value(system, name, place), rows[name][near])
        self.assertGreater(seen, 100)

    def test_what_is_read(self):
        chance = random.Random(338)
        for system in far_systems(339, 150):
            for name in system.names:
                for place in (FAR, chance.randint(2, FAR), 10 ** 9, 2):
                    total = system.constant(name)
                    for table, vector, factor in system.reads(name):
                        if place - vector[0] >= 0:
                            total += factor * far_value(system, table, place - vector[0])
                    self.assertEqual(far_value(system, name, place), total % system.modulus)

    def test_moduli_that_divide(self):
        for system in far_systems(340, 60):
            for name in system.names:
                more = far_value(with_modulus(system, 12 * system.modulus), name, FAR)
                self.assertEqual(more % system.modulus, far_value(system, name, FAR))

    def test_a_table_that_reads_another_one_alone(self):
        for system in far_systems(342, 60):
            if len(system.all_reads()) < 12:
                name = system.names[0]
                for step in (-2, 0, 1):
                    rows = [(each, system.constant(each), system.reads(each)) for each in system.names]
                    other = System(1, rows + [("other", 1, [(name, (step,), 4)])], system.modulus)
                    wanted = (1 + 4 * far_value(system, name, FAR - step)) % system.modulus
                    self.assertEqual(far_value(other, "other", FAR), wanted)

    def test_names_and_the_order_of_tables_do_not_matter(self):
        chance = random.Random(343)
        for system in far_systems(344, 60):
            names = dict(zip(system.names, chance.sample(LETTERS, len(system))))
            other = system.renamed(names).beside(System(1, [("zz", 1, [("zz", (1,), 2)])], system.modulus))
            for name in system.names:
                self.assertEqual(far_value(other, names[name], FAR), far_value(system, name, FAR))

    def test_with_great_shifts(self):
        system = round_of((1,), (2,))
        self.assertEqual(greatest_shifts(system), {"a": (0,), "b": (0,)})
        for place in (2 * FAR, 10 ** 40, 10 ** 60):
            worth = far_value(system, "a", place)
            self.assertEqual(worth, (0 + far_value(system, "b", place - 1)) % 101)


class ErrorsTest(unittest.TestCase):
    def test_each(self):
        self.assertEqual(error_of(far_value, grow(), "b", 5), ("UnknownTable", "b"))
        for place in (-1, -FAR):
            self.assertEqual(error_of(far_value, grow(), "a", place), ("InvalidNumber", place))
        for system in (single((0,)), single((-1,)), round_of((2,), (-2,)), single((1,), (0,))):
            for place in (0, 1, FAR):
                self.assertEqual(error_of(far_value, system, "a", place), ("NoFar", None))

    def test_several(self):
        bad = single((0,))
        self.assertEqual(error_of(far_value, bad, "b", -1), ("UnknownTable", "b"))
        self.assertEqual(error_of(far_value, grow(), "", -1), ("UnknownTable", ""))
        self.assertEqual(error_of(far_value, bad, "b", 1), ("UnknownTable", "b"))
        self.assertEqual(error_of(far_value, bad, "a", -1), ("InvalidNumber", -1))

    def test_a_schedule_for_other_tables_is_not_enough(self):
        system = System(1, [("a", 1, [("a", (1,), 1)]), ("b", 0, [("b", (0,), 1)]), ("c", 0, [])])
        for name in "abc":
            self.assertEqual(error_of(far_value, system, name, 0), ("NoFar", None))
        self.assertEqual(far_value(system.without([("b", 0)]), "a", 4), 5)

    def test_exactly_without_a_schedule(self):
        chance, seen = random.Random(345), []
        for _ in range(300):
            system = random_system(chance, 1, 3, 6, 2, chance.choice([0, 1]))
            wanted = ("NoFar", None) if reckoned.least_levels(system) is None else None
            self.assertEqual(error_of(far_value, system, chance.choice(system.names), chance.choice([0, 3, FAR])), wanted)
            seen.append(wanted is None)
        self.assertGreater(min(seen.count(True), seen.count(False)), 50)

    def test_by_name(self):
        self.assertEqual(far_value(place=11, name="a", system=grow()), 144)
        self.assertTrue(grow() == grow())


if __name__ == "__main__":
    unittest.main()
