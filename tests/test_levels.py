"""[7] and [9]: levels, drops and schedules; pieces of reads, and stuck reads."""

import random
import unittest

import reckoned
from samples import (
    LETTERS,
    both,
    error_of,
    grow,
    nest,
    opposed_system,
    pair,
    random_system,
    round_of,
    single,
    trio,
)

from farreads.levels import count_levels, drop, is_schedule, schedule, stuck_reads
from farreads.systems import System

FIRST = {"a": ((2, 2), 1), "b": ((2, 2), 0)}
SECOND = {"a": ((1, 0), 0), "b": ((0, 1), 0)}


def empty(dimensions=2):
    return System(dimensions, [("a", 3, []), ("b", 0, [])])


def apart():
    """Two tables that read themselves by opposite vectors, and nothing else."""
    return System(2, [("a", 0, [("a", (2, -2), 1)]), ("b", 0, [("b", (-1, 1), 1)])])


def joined():
    """The same two tables, of which now one reads the other one."""
    return System(2, [("a", 0, [("a", (2, -2), 1), ("b", (0, 0), 1)]), ("b", 0, [("b", (-1, 1), 1)])])


def deep_nest():
    """A system of three dimensions that needs four levels."""
    rows = [(name, 0, nest().reads(name)) for name in "abc"]
    rows[0][2].append(("d", (0, 0, 0), 1))
    return System(3, rows + [("d", 0, [("d", (1, 1, -3), 1)])])


def chance_systems(seed, many):
    """Systems of one to three dimensions by chance; a third of them has vectors that are opposed."""
    chance = random.Random(seed)
    for number in range(many):
        dimensions = chance.randint(1, 3)
        if number % 3 == 0:
            yield opposed_system(chance, dimensions)
        else:
            yield random_system(chance, dimensions, 6, 12, chance.choice([1, 2, 5]), chance.choice([0, 1]))


class DropTest(unittest.TestCase):
    def test_both_tables(self):
        self.assertEqual([drop(pair(), FIRST, read) for read in pair().all_reads()], [0, 1, 0, 1])
        self.assertEqual([drop(pair(), SECOND, read) for read in pair().all_reads()], [1, None, 1, None])

    def test_products_and_heights(self):
        system = System(3, [("a", 0, [("b", (1, -2, 3), 1), ("a", (5, 0, -1), 1)]), ("b", 0, [("a", (0, 0, -4), 9)])])
        level = {"a": ((3, 4, 5), -7), "b": ((3, 4, 5), 20)}
        self.assertEqual([drop(system, level, read) for read in system.all_reads()], [-17, 10, 7])

    def test_the_height_of_the_table_that_reads_is_added(self):
        system = System(1, [("a", 0, [("b", (0,), 1)]), ("b", 0, [("a", (0,), 1)])])
        level = {"a": ((0,), 10 ** 40), "b": ((0,), -1)}
        self.assertEqual([drop(system, level, ("a", 0)), drop(system, level, ("b", 0))], [10 ** 40 + 1, -10 ** 40 - 1])

    def test_one_table_or_none(self):
        for level in ({}, {"a": ((2, 2), 1)}, {"b": ((2, 2), 1)}):
            self.assertIsNone(drop(pair(), level, ("a", 1)))
            self.assertIsNone(drop(pair(), level, ("b", 1)))
        self.assertEqual(drop(pair(), {"a": ((5, 2), 1)}, ("a", 0)), 3)
        self.assertIsNone(drop(pair(), {"b": ((5, 2), 1)}, ("a", 0)))

    def test_unlike_vectors(self):
        for vector in ((2, 1), (1, 2), (0, 0), (3, 2)):
            level = {"a": ((2, 2), 1), "b": (vector, 0)}
            self.assertEqual([drop(pair(), level, ("a", 1)), drop(pair(), level, ("b", 1))], [None, None])
            self.assertEqual(drop(pair(), level, ("a", 0)), 0)

    def test_vectors_of_another_length(self):
        for vector in ((2,), (2, 2, 2), (2, 2, 0), ()):
            level = {"a": (vector, 1), "b": (vector, 0)}
            self.assertEqual([drop(pair(), level, read) for read in pair().all_reads()], [None] * 4)

    def test_nothing_else_is_asked_of_the_level(self):
        self.assertEqual(drop(pair(), {"a": ((-1, 2), 3), "b": ((-1, 2), 1)}, ("a", 0)), -3)
        self.assertEqual(drop(pair(), {"c": ((2, 2), 3), "a": ((2, 1), 3)}, ("a", 0)), 1)

    def test_errors(self):
        for read in (("a", 2), ("a", -1), ("c", 0), ("", 0), ("b", 10 ** 40)):
            for level in (FIRST, {}):
                self.assertEqual(error_of(drop, pair(), level, read), ("InvalidRead", read))

    def test_by_chance(self):
        chance = random.Random(80)
        for system in chance_systems(81, 100):
            for level in random_levels(chance, system, 3):
                for read, edge in reckoned.edges(system).items():
                    self.assertEqual(drop(system, level, read), reckoned.drop(level, edge))


def random_levels(chance, system, many):
    """Levels by chance, in which many tables have the same vector."""
    levels = []
    for _ in range(many):
        vectors = [tuple(chance.randint(0, 3) for _ in range(system.dimensions)) for _ in range(2)]
        names = [name for name in system.names if chance.random() < 0.9]
        levels.append({name: (chance.choice(vectors[:1] * 5 + vectors), chance.randint(-3, 3)) for name in names})
    return levels


class IsScheduleTest(unittest.TestCase):
    def check(self, levels, right, system=None):
        self.assertIs(is_schedule(system or pair(), levels), right)

    def test_right_ones(self):
        self.check([FIRST, SECOND], True)
        self.check([FIRST, FIRST, SECOND], True)
        self.check([FIRST, SECOND, FIRST], True)
        self.check([FIRST, SECOND, {}], True)
        self.check([{"a": ((7, 7), -99), "b": ((7, 7), -105)}, SECOND], True)

    def test_levels_exchanged_or_left_out(self):
        self.check([SECOND, FIRST], False)
        self.check([FIRST], False)
        self.check([SECOND], False)
        self.check([FIRST, FIRST], False)
        self.check([], False)
        self.check([{}, FIRST, SECOND], False)

    def test_names_left_out(self):
        for name in "ab":
            self.check([{name: FIRST[name]}, SECOND], False)
            self.check([FIRST, {name: SECOND[name]}], False)

    def test_after_a_drop_of_one_nothing_is_asked(self):
        chain = System(1, [("a", 0, [("b", (0,), 1)]), ("b", 0, [])])
        down, up = {"a": ((0,), 1), "b": ((0,), 0)}, {"a": ((0,), 0), "b": ((0,), 1)}
        self.check([down, up], True, chain)
        self.check([up, down], False, chain)
        self.check([down, {}, {"a": ((3,), 0)}], True, chain)

    def test_drops_of_zero_and_one(self):
        chain = System(1, [("a", 0, [("b", (2,), 1)]), ("b", 0, [])])
        for height, right in ((-3, False), (-2, False), (-1, True), (0, True)):
            self.check([{"a": ((1,), height), "b": ((1,), 0)}], right, chain)
        flat = {"a": ((1,), -2), "b": ((1,), 0)}
        self.check([flat, flat, {"a": ((0,), 5), "b": ((0,), 4)}], True, chain)
        self.check([flat, {"a": ((0,), 5), "b": ((0,), 6)}, {"a": ((0,), 5), "b": ((0,), 4)}], False, chain)

    def test_other_names(self):
        for name in ("c", "", "A"):
            self.check([{**FIRST, name: ((2, 2), 0)}, SECOND], False)
            self.check([FIRST, SECOND, {name: ((0, 0), 0)}], False)

    def test_vectors_of_another_length(self):
        for vector in ((), (2,), (2, 2, 2), (2, 2, 0)):
            self.check([{"a": (vector, 1), "b": (vector, 0)}, SECOND], False)
            self.check([FIRST, SECOND, {"a": (vector, 0)}], False)
        self.check([FIRST, {"a": ((1,), 0), "b": ((0, 1), 0)}], False)

    def test_vectors_with_integers_below_zero(self):
        self.check([FIRST, {"a": ((1, -1), 0), "b": ((0, 1), 0)}], False)
        self.check([FIRST, {"a": ((0, -1), 0), "b": ((0, 1), 0)}], False)
        self.check([FIRST, SECOND, {"b": ((-1, 0), 0)}], False)
        self.check([{"a": ((-1,), 0)}], False, single((-1,)))

    def test_without_reads(self):
        self.check([], True, empty())
        self.check([{}], True, empty())
        self.check([FIRST, SECOND, {}], True, empty())
        self.check([{"c": ((0, 0), 0)}], False, empty())
        self.check([{"a": ((0,), 0)}], False, empty())

    def test_what_schedule_returns_if_there_is_none(self):
        self.check(schedule(both()), False, both())

    def test_bent_schedules(self):
        chance, seen = random.Random(82), []
        for system in chance_systems(83, 300):
            levels = schedule(system)
            if levels is not None:
                for bent in self.bent(chance, system, levels):
                    right = all(reckoned.is_level(system, level) for level in bent)
                    right = right and reckoned.is_schedule(system, bent)
                    self.assertIs(is_schedule(system, bent), right)
                    seen.append(right)
        self.assertGreater(min(seen.count(True), seen.count(False)), 200)

    def bent(self, chance, system, levels):
        at = chance.randrange(len(levels))
        name = chance.choice(sorted(levels[at]))
        vector, height = levels[at][name]
        row = chance.randrange(system.dimensions)
        more = vector[:row] + (vector[row] + chance.choice([-1, 1]),) + vector[row + 1:]
        others = [(more, height), (vector, height + 1), (vector, height - 1), (vector + (0,), height), (vector[1:], height)]
        found = [levels[:at] + [{**levels[at], name: other}] + levels[at + 1:] for other in others]
        less = {other: levels[at][other] for other in levels[at] if other != name}
        found.append(levels[:at] + [less] + levels[at + 1:])
        found += [levels[:at] + levels[at + 1:], levels[::-1], levels + levels, levels[:at] + levels[at:at + 1] + levels[at:]]
        found += [random_levels(chance, system, 2) for _ in range(3)]
        double = []
        for level in levels:
            double.append({each: (tuple(2 * step for step in steps), 2 * high) for each, (steps, high) in level.items()})
        return found + [double, levels]


class CountLevelsTest(unittest.TestCase):
    def check(self, system, many):
        self.assertEqual(count_levels(system), many)
        levels = schedule(system)
        if many is None:
            self.assertIsNone(levels)
        else:
            self.assertEqual(len(levels), many)
            self.assertIs(is_schedule(system, levels), True)

    def test_none_without_reads(self):
        self.check(empty(), 0)
        self.check(single((1,)).without([("a", 0)]), 0)
        self.assertEqual(schedule(empty()), [])

    def test_one(self):
        for system in (single((1,)), single((1, -5), (-1, 6)), grow(), apart(), single((0, 0, 1), (5, -5, 0))):
            self.check(system, 1)
        self.check(round_of((5,), (-5,), (0,), (1,), (-1,), (1,)), 1)
        self.check(System(1, [("a", 0, [("b", (-5,), 1)]), ("b", 0, [])]), 1)

    def test_two_and_more(self):
        self.check(pair(), 2)
        self.check(joined(), 2)
        self.check(nest(), 3)
        self.check(deep_nest(), 4)

    def test_none(self):
        for system in (single((0,)), single((-1,)), single((2, -1), (-4, 2)), both(), trio(), single((0, 0, 0))):
            self.check(system, None)
        self.check(round_of((5,), (-5,), (0,), (1,), (-1,)), None)
        self.check(round_of((1, -1), (-1, 1)), None)

    def test_none_only_on_a_later_level(self):
        rows = [("a", 0, [("a", (1, -1), 1), ("b", (0, 0), 1)]), ("b", 0, [("b", (-1, 1), 1), ("b", (1, -1), 1)])]
        self.check(System(2, rows), None)

    def test_none_in_one_of_two_pieces(self):
        self.check(pair(1000003).beside(single((0, 0)).renamed({"a": "z"})), None)

    def test_by_chance(self):
        seen = []
        for system in chance_systems(84, 1500):
            many = reckoned.least_levels(system)
            levels = schedule(system)
            self.assertEqual(count_levels(system), many)
            self.assertEqual(None if levels is None else len(levels), many)
            if levels is not None:
                self.assertTrue(all(reckoned.is_level(system, level) for level in levels))
                self.assertTrue(reckoned.is_schedule(system, levels))
                self.assertIs(is_schedule(system, levels), True)
            seen.append(many)
        self.assertGreater(min(seen.count(many) for many in (1, 2, None)), 40)

    def test_integers_that_are_great(self):
        far = 10 ** 40
        self.check(single((far, -1), (1 - far, 1)), 1)
        self.check(single((far, -1), (-far, 1)), None)
        self.check(single((far, -1), (-1, far - 1), (1, 1 - far)), None)

    def test_kinds(self):
        levels = schedule(pair())
        self.assertIs(type(levels), list)
        for level in levels:
            self.assertIs(type(level), dict)
            for vector, height in level.values():
                self.assertEqual([type(vector), type(vector[0]), type(height)], [tuple, int, int])
        self.assertIs(type(count_levels(pair())), int)
        self.assertIs(type(stuck_reads(pair())), list)


class SameNumberTest(unittest.TestCase):
    def check(self, system, other):
        self.assertEqual(count_levels(other), count_levels(system))

    def test_changes_that_do_not_matter(self):
        chance = random.Random(85)
        for system in chance_systems(86, 250):
            self.check(system, system.renamed(dict(zip(system.names, ["z", "yy", "a", "x", "b", "c"]))))
            axes = list(range(system.dimensions))
            chance.shuffle(axes)
            self.check(system, system.exchanged(tuple(axes)))
            self.check(system, self.other_numbers(chance, system))
            self.check(system, self.read_twice(chance, system))

    def other_numbers(self, chance, system):
        rows = []
        for name in system.names:
            reads = [(table, vector, chance.choice([-9, -1, 1, 2])) for table, vector, _ in system.reads(name)]
            rows.append((name, chance.randint(-99, 99), reads))
        return System(system.dimensions, rows, chance.randint(2, 2 * 10 ** 6))

    def read_twice(self, chance, system):
        if len(system.all_reads()) == 12:
            return system
        name, number = chance.choice(system.all_reads())
        rows = [(each, system.constant(each), system.reads(each)) for each in system.names]
        rows[system.names.index(name)][2].insert(number, system.reads(name)[number])
        return System(system.dimensions, rows, system.modulus)

    def test_tables_beside(self):
        plain = System(2, [("x", 1, []), ("y", 2, [])])
        for system, many in ((pair(1000003), 2), (both(), None), (apart(), 1), (empty(), 0)):
            self.assertEqual(count_levels(system.beside(plain)), many)
            for other, more in ((pair(1000003), 2), (both(), None), (apart(), 1), (empty(), 0)):
                together = system.beside(other.renamed({name: name + "x" for name in other.names}))
                self.assertEqual(count_levels(together), None if None in (many, more) else max(many, more))

    def test_fewer_reads_need_no_more_levels(self):
        for system in chance_systems(87, 100):
            many = count_levels(system)
            if many is not None:
                for read in system.all_reads():
                    self.assertLessEqual(count_levels(system.without([read])), many)


class StuckReadsTest(unittest.TestCase):
    def test_known(self):
        self.assertEqual(stuck_reads(pair()), [("a", 0), ("b", 0)])
        self.assertEqual(stuck_reads(both()), [("a", 0), ("a", 1)])
        self.assertEqual(stuck_reads(empty()), [])
        self.assertEqual(stuck_reads(grow()), [])
        self.assertEqual(stuck_reads(single((0,))), [("a", 0)])
        self.assertEqual(stuck_reads(nest()), [("a", 0), ("a", 1), ("b", 0), ("b", 1), ("c", 0)])
        self.assertEqual(stuck_reads(single((1, 1), (0, 0), (2, -2))), [("a", 1)])

    def test_pieces(self):
        self.assertEqual(stuck_reads(apart()), [])
        self.assertEqual(stuck_reads(joined()), [("a", 0), ("b", 0)])
        self.assertEqual(stuck_reads(joined().without([("a", 1)])), [])

    def test_pieces_that_a_read_in_the_other_direction_joins(self):
        rows = [("a", 0, [("a", (2, -2), 1)]), ("b", 0, [("b", (-1, 1), 1), ("a", (5, 5), 1)])]
        self.assertEqual(stuck_reads(System(2, rows)), [("a", 0), ("b", 0)])

    def test_pieces_by_a_third_table(self):
        rows = [("a", 0, [("a", (2, -2), 1)]), ("b", 0, [("b", (-1, 1), 1)])]
        over = [("c", 0, [("a", (0, 0), 1), ("b", (0, 0), 1)])]
        self.assertEqual(stuck_reads(System(2, rows + over)), [("a", 0), ("b", 0)])
        under = [("a", 0, rows[0][2] + [("c", (0, 0), 1)]), ("b", 0, rows[1][2] + [("c", (0, 0), 1)]), ("c", 0, [])]
        self.assertEqual(stuck_reads(System(2, under)), [("a", 0), ("b", 0)])

    def test_several_pieces(self):
        three = pair(1000003).beside(both().renamed({"a": "c"})).beside(apart().renamed({"a": "d", "b": "e"}))
        self.assertEqual(stuck_reads(three), [("a", 0), ("b", 0), ("c", 0), ("c", 1)])

    def test_by_chance(self):
        kinds = set()
        for system in chance_systems(88, 1200):
            found = stuck_reads(system)
            self.assertEqual(found, sorted(reckoned.stuck(system.dimensions, reckoned.edges(system))))
            kinds.add((bool(found), schedule(system) is None, len(reckoned.pieces(reckoned.edges(system))) > 1))
        wanted = {(False, False), (True, False), (True, True)}
        self.assertEqual(kinds, {(*kind, many) for kind in wanted for many in (False, True)})

    def test_names_do_not_matter(self):
        for system in chance_systems(89, 100):
            names = dict(zip(system.names, LETTERS[len(system.names):]))
            self.assertEqual(
                stuck_reads(system.renamed(names)), [(names[name], number) for name, number in stuck_reads(system)]
            )


if __name__ == "__main__":
    unittest.main()
