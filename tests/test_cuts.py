"""Reads that are left out, so that the others have a schedule, with points [7] and [10]."""

import itertools
import random
import unittest

import reckoned
from samples import LETTERS, both, great_systems, grow, nest, opposed_system, pair, random_system, round_of, single

from farreads.cuts import fewest_cuts, must_go
from farreads.levels import count_levels, schedule
from farreads.systems import System
from farreads.walks import closed_walk


def chance_systems(seed, many):
    """Systems by chance with up to seven reads; many of them have no schedule."""
    chance = random.Random(seed)
    for number in range(many):
        dimensions = 1 + number % 3
        system = random_system(chance, dimensions, chance.choice([2, 6]), 7, chance.choice([1, 2, 5]), chance.choice([-1, 0, 1]))
        if number % 4 == 0:
            system = opposed_system(chance, dimensions)
            system = system.without(chance.sample(system.all_reads(), max(0, len(system.all_reads()) - 7)))
        yield system


def tried_cuts(system):
    """The first list of as few reads as possible, by a trial of all lists."""
    reads = system.all_reads()
    lists = [list(cut) for many in range(len(reads) + 1) for cut in itertools.combinations(reads, many)]
    right = [cut for cut in lists if reckoned.least_levels(system.without(cut)) is not None]
    return min(right, key=lambda cut: (len(cut), cut))


class FewestCutsTest(unittest.TestCase):
    def test_known(self):
        self.assertEqual(fewest_cuts(both()), [("a", 0)])
        self.assertEqual(fewest_cuts(both().without([("a", 0)])), [])
        self.assertEqual(fewest_cuts(single((0,))), [("a", 0)])
        self.assertEqual(fewest_cuts(single((1,), (0,), (2,), (-1,))), [("a", 1), ("a", 3)])
        self.assertEqual(fewest_cuts(single((1,), (-1,), (2,), (0,), (-2,), (3,), (-3,))), [("a", at) for at in (1, 3, 4, 6)])
        self.assertEqual(fewest_cuts(round_of((3,), (-3,))), [("a", 0)])

    def test_as_few_as_possible_before_the_first(self):
        rows = [("a", 0, [("b", (0,), 1), ("c", (0,), 1)]), ("b", 0, [("d", (0,), 1)]), ("c", 0, [("d", (0,), 1)])]
        system = System(1, rows + [("d", 0, [("a", (0,), 1)])])
        self.assertEqual(fewest_cuts(system), [("d", 0)])

    def test_all_reads(self):
        system = System(2, [(name, 0, [(name, (0, -at), 1)]) for at, name in enumerate("abcdef")])
        self.assertEqual(fewest_cuts(system), [(name, 0) for name in "abcdef"])
        system = single(*[(-at,) for at in range(7)])
        self.assertEqual(fewest_cuts(system), [("a", at) for at in range(7)])

    def test_with_a_schedule(self):
        for system in (pair(), nest(), grow(), System(3, [("a", 0, [])]), single((1, -5), (-1, 6))):
            self.assertEqual(fewest_cuts(system), [])

    def test_beside_a_trial_of_all_lists(self):
        sizes = []
        for system in chance_systems(320, 250):
            cut = fewest_cuts(system)
            self.assertEqual(cut, tried_cuts(system))
            self.assertIsNotNone(schedule(system.without(cut)))
            sizes.append(len(cut))
        self.assertGreater(min(sizes.count(many) for many in (0, 1, 2)), 10)

    def test_walks_that_block_are_cut(self):
        for system in chance_systems(321, 200):
            walk = closed_walk(system)
            if walk is not None:
                self.assertNotEqual(set(walk) & set(fewest_cuts(system)), set())

    def test_more_reads(self):
        for system in great_systems(322, 20):
            cut = fewest_cuts(system)
            self.assertIsNotNone(schedule(system.without(cut)))
            self.assertEqual(cut, sorted(set(cut)))

    def test_arguments_and_results(self):
        system = both()
        fewest_cuts(system).append("x")
        self.assertEqual(fewest_cuts(system=system), [("a", 0)])
        fewest_cuts(pair()).append("x")
        self.assertEqual(fewest_cuts(pair()), [])
        self.assertTrue(system == both())
        found = fewest_cuts(single((0,)))
        self.assertEqual([type(found), type(found[0])], [list, tuple])


class MustGoTest(unittest.TestCase):
    def test_known(self):
        self.assertEqual(must_go(both()), [("a", 0), ("a", 1)])
        self.assertEqual(must_go(single((1,), (0,), (2,))), [("a", 1)])
        self.assertEqual(must_go(round_of((3,), (-5,), (1,))), [("a", 0), ("b", 0), ("c", 0)])

    def test_with_a_schedule(self):
        for system in (pair(), nest(), grow(), System(3, [("a", 0, [])]), single((1,), (2,))):
            self.assertEqual(must_go(system), [])

    def test_no_single_read_is_enough(self):
        self.assertEqual(must_go(single((0,), (-1,))), [])
        self.assertEqual(must_go(round_of((0,), (0,)).beside(System(1, [("z", 0, [("z", (0,), 1)])], 101))), [])

    def test_beside_without(self):
        seen = []
        for system in list(chance_systems(323, 300)) + list(great_systems(324, 60)):
            found = must_go(system)
            wanted = []
            if reckoned.least_levels(system) is None:
                reads = system.all_reads()
                wanted = [read for read in reads if reckoned.least_levels(system.without([read])) is not None]
            self.assertEqual(found, wanted)
            self.assertEqual(found, sorted(found))
            seen.append(len(found))
        self.assertGreater(min(seen.count(many) for many in (0, 1, 2)), 15)

    def test_beside_fewest_cuts(self):
        for system in chance_systems(325, 200):
            cut, found = fewest_cuts(system), must_go(system)
            self.assertIs(len(cut) == 1, bool(found))
            self.assertEqual(found[:1], cut if len(cut) == 1 else [])

    def test_arguments_and_results(self):
        system = both()
        must_go(system).clear()
        self.assertEqual(must_go(system=system), [("a", 0), ("a", 1)])
        must_go(pair()).append("x")
        self.assertEqual(must_go(pair()), [])
        self.assertTrue(system == both())


class SameTest(unittest.TestCase):
    def test_names_and_coordinates_do_not_matter(self):
        for system in chance_systems(326, 120):
            # With names in the same order, the first list stays the first one.
            names = dict(zip(system.names, LETTERS[7:]))
            axes = tuple(range(system.dimensions))[::-1]
            for call in (fewest_cuts, must_go):
                self.assertEqual(call(system.renamed(names)), [(names[name], number) for name, number in call(system)])
                self.assertEqual(call(system.exchanged(axes)), call(system))
            names = dict(zip(system.names, LETTERS[6 - len(system):6][::-1]))
            self.assertEqual(len(fewest_cuts(system.renamed(names))), len(fewest_cuts(system)))
            self.assertEqual(must_go(system.renamed(names)), sorted((names[name], at) for name, at in must_go(system)))

    def test_a_read_less(self):
        for system in chance_systems(327, 120):
            many = len(fewest_cuts(system))
            for read in system.all_reads():
                other = system.without([read])
                self.assertIn(len(fewest_cuts(other)), (many - 1, many))
                if many == 0:
                    self.assertLessEqual(count_levels(other), count_levels(system))


if __name__ == "__main__":
    unittest.main()
