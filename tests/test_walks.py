"""[8] and [10]: closed walks, their sums, and walks that block."""

import random
import unittest

import reckoned
from samples import (
    LETTERS,
    bent_walks,
    both,
    error_of,
    great_systems,
    grow,
    nest,
    opposed_system,
    pair,
    random_system,
    random_walk,
    round_of,
    single,
    trio,
)

from farreads.levels import is_schedule, schedule
from farreads.ready import endless_way, is_ready, shows_endless
from farreads.systems import System
from farreads.walks import blocks, closed_walk, walk_sum

FAR = 10 ** 40


def chance_systems(seed, many):
    """Systems of one to three dimensions with up to four tables and seven reads."""
    chance = random.Random(seed)
    for number in range(many):
        yield random_system(chance, 1 + number % 3, 4, 7, chance.choice([1, 2, 5]), chance.choice([0, 1]))


class ClosedWalkTest(unittest.TestCase):
    def check(self, system):
        walk, levels = closed_walk(system), schedule(system)
        self.assertIs(walk is None, levels is not None)
        if walk is None:
            self.assertIs(is_schedule(system, levels), True)
        else:
            self.assertTrue(reckoned.walk_blocks(system, walk))
            self.assertIs(blocks(system, walk), True)
        return walk is None

    def test_none(self):
        empty = System(2, [("a", 0, []), ("b", 3, [])])
        for system in (empty, pair(), nest(), grow(), single((1,)), single((1, -5), (-1, 6)), round_of((1, -5), (0, 6))):
            self.assertIsNone(closed_walk(system))
            self.check(system)

    def test_one_read(self):
        for vector in ((0,), (-3,), (0, 0), (0, -1), (-1, 0), (0, 0, 0), (-5, 0, -5)):
            self.assertEqual(closed_walk(single(vector)), [("a", 0)])

    def test_a_round(self):
        for vectors in (((3,), (-3,)), ((5, -5), (0, 0), (-5, 4)), ((1,), (1,), (1,), (1,), (1,), (-5,))):
            walk = closed_walk(round_of(*vectors))
            self.assertEqual(sorted(walk), [(LETTERS[at], 0) for at in range(len(vectors))])
            self.check(round_of(*vectors))

    def test_reads_that_must_be_taken_several_times(self):
        for vectors, counts in (
            (((2, -1), (-4, 2)), [2, 1]),
            (((3, -5), (-3, 5)), [1, 1]),
            (((1, -1, 0), (0, 1, -2), (-2, 0, 4)), [2, 2, 1]),
            (((5, -4, 0), (0, 5, -4), (-4, 0, 3)), None),
            (((3, -5), (-2, 3)), []),
        ):
            system = single(*vectors)
            walk = closed_walk(system)
            self.check(system)
            self.assertIs(walk is None, counts is None)
            if counts:
                # Whatever blocks takes them in these proportions.
                many = [walk.count(("a", row)) for row in range(len(vectors))]
                self.assertTrue(all(one * counts[0] == other * many[0] for one, other in zip(many, counts)), many)

    def test_none_before_a_later_level(self):
        rows = [("a", 0, [("a", (1, -1), 1), ("b", (0, 0), 1)]), ("b", 0, [("b", (-1, 1), 1), ("b", (1, -1), 1)])]
        walk = closed_walk(System(2, rows))
        self.assertEqual(sorted(set(walk)), [("b", 0), ("b", 1)])
        self.check(System(2, rows))

    def test_rounds_that_hang_together_by_reads_that_no_walk_comes_to(self):
        rows = [("a", 0, [("a", (1, -1), 1), ("b", (0, 0), 1)]), ("b", 0, [("b", (-1, 1), 1), ("a", (0, 0), 1)])]
        walk = closed_walk(System(2, rows))
        self.assertEqual({name for name, _ in walk}, {"a", "b"})
        self.check(System(2, rows))
        self.assertIsNone(closed_walk(System(2, rows).without([("b", 1)])))
        self.assertIsNone(closed_walk(System(2, rows).without([("a", 1)])))

    def test_one_of_several_pieces(self):
        three = pair(1000003).beside(both().renamed({"a": "c"})).beside(single((0, 0)).renamed({"a": "d"}))
        self.check(three)
        self.assertEqual(len({name for name, _ in closed_walk(three)}), 1)

    def test_by_chance(self):
        seen = [self.check(system) for system in chance_systems(210, 1500)]
        self.assertGreater(min(seen.count(True), seen.count(False)), 300)

    def test_beside_what_the_tests_reckon(self):
        for system in chance_systems(211, 300):
            self.assertIs(closed_walk(system) is None, reckoned.least_levels(system) is not None)

    def test_chains_and_rounds_of_six_tables(self):
        seen = [self.check(system) for system in great_systems(212, 400)]
        self.assertGreater(min(seen.count(True), seen.count(False)), 50)
        chance = random.Random(213)
        for _ in range(300):
            self.check(opposed_system(chance, chance.randint(1, 3)))

    def test_long_walks(self):
        rows = [
            ("a", 0, [("b", (1, 5, 5), 1), ("b", (-2, -3, 0), 1)]),
            ("b", 0, [("c", (-5, -3, 3), 1), ("c", (3, 4, -5), 1)]),
            ("c", 0, [("d", (-5, 4, 0), 1), ("c", (2, 4, 1), 1)]),
            ("d", 0, [("e", (3, 4, 4), 1), ("e", (4, -5, -1), 1)]),
            ("e", 0, [("a", (-4, 5, 4), 1), ("a", (4, -3, 5), 1), ("a", (-3, 5, -4), 1), ("e", (1, 4, 4), 1)]),
        ]
        self.check(System(3, rows))

    def test_integers_that_are_great(self):
        self.check(single((FAR, -1), (1 - FAR, 1)))
        self.check(single((FAR, -1), (-FAR, 1)))
        self.check(round_of((FAR, -FAR), (-FAR, FAR - 1), (0, 1)))
        self.assertEqual(len(closed_walk(round_of((FAR, -FAR), (-FAR, FAR - 1), (0, 1)))), 3)

    def test_a_new_list(self):
        walk = closed_walk(both())
        wanted = list(walk)
        walk.clear()
        self.assertEqual(closed_walk(both()), wanted)
        self.assertEqual([type(wanted), {type(read) for read in wanted}], [list, {tuple}])

    def test_a_walk_gone_from_a_cell_far_out(self):
        chance, seen = random.Random(214), 0
        for number in range(400):
            system = random_system(chance, 1 + number % 2, 3, 6, 2, 0)
            walk = closed_walk(system)
            if walk is not None and len(walk) < 100:
                seen += 1
                cells = [(walk[0][0], (10 * len(walk),) * system.dimensions)]
                for name, at in walk:
                    table, vector, _ = system.reads(name)[at]
                    cells.append((table, tuple(start - step for start, step in zip(cells[-1][1], vector))))
                self.assertIs(shows_endless(system, cells[0], (cells, 0)), True)
        self.assertGreater(seen, 100)

    def test_far_cells_of_a_walk_are_not_ready(self):
        seen = 0
        for system in chance_systems(215, 300):
            walk = closed_walk(system)
            if system.dimensions == 1 and walk is not None:
                seen += 1
                for name, _ in walk[:3]:
                    self.assertIs(is_ready(system, (name, (100,))), False)
                    self.assertTrue(reckoned.proves_endless(system, (name, (100,)), endless_way(system, (name, (100,)))))
        self.assertGreater(seen, 30)


class BlocksTest(unittest.TestCase):
    def check(self, system, walk, right):
        self.assertIs(blocks(system, walk), right)

    def test_known(self):
        self.check(both(), [("a", 0), ("a", 1)], True)
        self.check(both(), [("a", 1), ("a", 0)], True)
        self.check(both(), [("a", 0)], False)
        self.check(both(), [("a", 1)], False)
        self.check(both(), [("a", 0), ("a", 1), ("a", 0)], False)

    def test_several_times_round(self):
        for many in (1, 2, 7):
            self.check(both(), [("a", 0), ("a", 1)] * many, True)
            self.check(both(), [("a", 0)] * many + [("a", 1)] * many, True)
            self.check(round_of((3, -2), (-3, 2)), [("a", 0), ("b", 0)] * many, True)

    def test_empty(self):
        for system in (both(), pair(), System(1, [("a", 0, [])])):
            self.check(system, [], False)

    def test_what_closed_walk_returns_if_there_is_none(self):
        self.check(pair(), closed_walk(pair()), False)

    def test_sums(self):
        for vector, right in (
            ((0,), True),
            ((-1,), True),
            ((1,), False),
            ((0, 0), True),
            ((0, -5), True),
            ((-5, 0), True),
            ((-5, 1), False),
            ((1, -5), False),
            ((0, 0, 0), True),
            ((0, 0, 1), False),
            ((0, 1, 0), False),
            ((1, 0, 0), False),
            ((-5, -5, 1), False),
        ):
            self.check(single(vector), [("a", 0)], right)
            self.check(single(vector), [("a", 0)] * 5, right)

    def test_open_walks(self):
        system = round_of((-1,), (-1,), (-1,))
        self.check(system, [("a", 0), ("b", 0), ("c", 0)], True)
        self.check(system, [("b", 0), ("c", 0), ("a", 0)], True)
        self.check(system, [("c", 0), ("b", 0), ("a", 0)], False)
        self.check(system, [("b", 0), ("a", 0), ("c", 0)], False)
        for walk in ([("a", 0)], [("a", 0), ("b", 0)], [("b", 0), ("c", 0)], [("a", 0), ("c", 0)]):
            self.check(system, walk, False)
        self.check(system, [("a", 0), ("b", 0), ("c", 0), ("a", 0)], False)
        self.check(system, [("a", 0), ("b", 0), ("b", 0), ("c", 0)], False)

    def test_only_the_end_does_not_fit(self):
        rows = [("a", 0, [("b", (-1,), 1)]), ("b", 0, [("b", (-1,), 1), ("a", (-1,), 1)])]
        self.check(System(1, rows), [("a", 0), ("b", 0)], False)
        self.check(System(1, rows), [("b", 0), ("b", 1)], False)
        self.check(System(1, rows), [("a", 0), ("b", 0), ("b", 1)], True)
        self.check(System(1, rows), [("b", 0)], True)

    def test_reads_that_are_none(self):
        system = round_of((-1,), (-1,))
        for read in (("a", 1), ("a", -1), ("c", 0), ("", 0), ("A", 0), ("b", FAR)):
            self.check(system, [read], False)
            self.check(system, [("a", 0), ("b", 0), read], False)
            self.check(system, [read, ("a", 0), ("b", 0)], False)
            self.check(system, [("a", 0), read], False)

    def test_systems_with_a_schedule(self):
        chance = random.Random(216)
        for system in (pair(), nest(), grow()):
            for _ in range(200):
                self.check(system, random_walk(chance, system, 9), False)

    def test_bent_walks(self):
        chance, seen = random.Random(217), []
        for system in list(chance_systems(218, 600)) + list(great_systems(219, 60)):
            walk = closed_walk(system) or random_walk(chance, system, 5)
            if len(walk) < 300:
                for bent in bent_walks(chance, system, walk):
                    seen.append(reckoned.walk_blocks(system, bent))
                    self.check(system, bent, seen[-1])
        self.assertGreater(min(seen.count(True), seen.count(False)), 1000)


class WalkSumTest(unittest.TestCase):
    def test_known(self):
        self.assertEqual(walk_sum(both(), [("a", 0), ("a", 0)]), (2, -2))
        self.assertEqual(walk_sum(both(), [("a", 0), ("a", 1)]), (0, 0))
        self.assertEqual(walk_sum(trio(), [("c", 0), ("a", 1), ("b", 0)]), (4,))
        self.assertEqual(walk_sum(nest(), [("b", 1), ("a", 0)]), (2, 0, -2))

    def test_empty(self):
        for dimensions in (1, 2, 3):
            self.assertEqual(walk_sum(System(dimensions, [("a", 0, [])]), []), (0,) * dimensions)
            self.assertEqual(walk_sum(single((5,) * dimensions), []), (0,) * dimensions)

    def test_several_times(self):
        for many in (1, 2, 3, 100):
            self.assertEqual(walk_sum(single((3, -4, 0)), [("a", 0)] * many), (3 * many, -4 * many, 0))

    def test_kinds(self):
        for walk in ([], [("a", 0)]):
            found = walk_sum(both(), walk)
            self.assertEqual([type(found), type(found[0])], [tuple, int])

    def test_by_chance(self):
        chance = random.Random(220)
        for system in chance_systems(221, 300):
            walk = [chance.choice(system.all_reads()) for _ in range(chance.randint(0, 9))]
            self.assertEqual(walk_sum(system, walk), reckoned.walk_total(system, walk))

    def test_errors(self):
        for read in (("a", 2), ("a", -1), ("c", 0), ("", 0), ("b", 10 ** 40)):
            for walk in ([read], [("a", 0), read], [read, ("a", 0)], [("a", 1), read, ("b", 7)], [read, read]):
                self.assertEqual(error_of(walk_sum, pair(), walk), ("InvalidRead", read))
        self.assertEqual(error_of(walk_sum, pair(), [("z", 0), ("a", 9)]), ("InvalidRead", ("z", 0)))
        self.assertEqual(error_of(walk_sum, pair(), [("b", 1), ("a", 9), ("z", 0)]), ("InvalidRead", ("a", 9)))


if __name__ == "__main__":
    unittest.main()
