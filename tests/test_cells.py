"""[5] and the first part of [6]: cells, what they read, and ways."""

import unittest

from samples import error_of, pair, trio

from farreads.cells import is_way, reads_from
from farreads.systems import System

FAR = 2 * 10 ** 30


class ReadsFromTest(unittest.TestCase):
    def test_in_the_order_of_the_reads(self):
        self.assertEqual(reads_from(pair(), ("a", (1, 0))), [("a", (0, 1)), ("b", (1, 0))])
        self.assertEqual(reads_from(pair(), ("b", (3, 4))), [("b", (4, 3)), ("a", (3, 3))])
        self.assertEqual(
            reads_from(trio(), ("c", (5,))), [("c", (6,)), ("a", (0,))]
        )

    def test_at_the_border_of_a_vector(self):
        system = System(1, [("a", 0, [("a", (3,), 1)])])
        places = [reads_from(system, ("a", (at,))) for at in range(5)]
        self.assertEqual(places, [[], [], [], [("a", (0,))], [("a", (1,))]])

    def test_at_the_border_of_each_coordinate(self):
        system = System(3, [("a", 0, [("b", (1, -2, 3), 1)]), ("b", 0, [])])
        self.assertEqual(reads_from(system, ("a", (1, 0, 3))), [("b", (0, 2, 0))])
        self.assertEqual(reads_from(system, ("a", (0, 9, 9))), [])
        self.assertEqual(reads_from(system, ("a", (9, 9, 2))), [])
        self.assertEqual(reads_from(system, ("a", (9, 0, 9))), [("b", (8, 2, 6))])

    def test_reads_outside_are_left_out(self):
        self.assertEqual(reads_from(trio(), ("a", (0,))), [("c", (0,))])
        self.assertEqual(reads_from(trio(), ("a", (1,))), [("b", (0,)), ("c", (1,)), ("b", (0,))])
        self.assertEqual(reads_from(trio(), ("b", (2,))), [])
        self.assertEqual(reads_from(pair(), ("b", (0, 0))), [])

    def test_the_same_cell_several_times(self):
        self.assertEqual(
            reads_from(trio(), ("a", (2,))), [("b", (1,)), ("a", (0,)), ("c", (2,)), ("b", (1,))]
        )
        thrice = System(1, [("a", 0, [("a", (0,), 1), ("a", (0,), -1), ("a", (0,), 1)])])
        self.assertEqual(reads_from(thrice, ("a", (0,))), [("a", (0,))] * 3)

    def test_a_table_without_reads(self):
        self.assertEqual(reads_from(System(1, [("a", 3, [])]), ("a", (5,))), [])

    def test_far_points(self):
        self.assertEqual(
            reads_from(pair(), ("a", (FAR, FAR))), [("a", (FAR - 1, FAR + 1)), ("b", (FAR, FAR))]
        )
        self.assertEqual(reads_from(pair(), ("b", (FAR, 0))), [])
        self.assertEqual(reads_from(trio(), ("b", (FAR,))), [("a", (FAR - 3,))])

    def test_unknown_table(self):
        for cell in (("c", (0, 0)), ("", (0, 0)), ("A", (1, 1)), ("aa", (0, 0))):
            self.assertEqual(error_of(reads_from, pair(), cell), ("UnknownTable", cell[0]))

    def test_invalid_cell(self):
        for point in ((), (0,), (0, 0, 0), (-1, 0), (0, -1), (-1, -1), (FAR, -FAR)):
            self.assertEqual(error_of(reads_from, pair(), ("a", point)), ("InvalidCell", ("a", point)))

    def test_unknown_table_before_invalid_cell(self):
        for point in ((), (0,), (-1, 0), (0, 0, -1)):
            self.assertEqual(error_of(reads_from, pair(), ("c", point)), ("UnknownTable", "c"))


class IsWayTest(unittest.TestCase):
    def test_ways(self):
        ways = [
            [("a", (1, 0)), ("a", (0, 1)), ("b", (0, 1)), ("b", (1, 0))],
            [("a", (0, 1)), ("b", (0, 1)), ("a", (0, 0)), ("b", (0, 0))],
            [("b", (3, 2)), ("b", (4, 1)), ("b", (5, 0))],
            [("a", (FAR, 5)), ("b", (FAR, 5)), ("a", (FAR, 4)), ("a", (FAR - 1, 5))],
        ]
        for way in ways:
            for many in range(1, len(way) + 1):
                self.assertIs(is_way(pair(), way[:many]), True)

    def test_one_cell(self):
        self.assertIs(is_way(pair(), [("a", (0, 0))]), True)
        self.assertIs(is_way(System(1, [("a", 0, [])]), [("a", (FAR,))]), True)

    def test_empty(self):
        self.assertIs(is_way(pair(), []), False)

    def test_a_cell_may_come_again(self):
        loop = System(1, [("a", 0, [("a", (0,), 1)])])
        self.assertIs(is_way(loop, [("a", (4,))] * 50), True)
        self.assertIs(is_way(loop, [("a", (4,)), ("a", (3,))]), False)

    def test_by_any_read(self):
        self.assertIs(is_way(trio(), [("a", (2,)), ("a", (0,)), ("c", (0,)), ("c", (1,))]), True)
        self.assertIs(is_way(trio(), [("a", (1,)), ("b", (0,))]), True)

    def test_one_step_that_is_no_read(self):
        self.assertIs(is_way(pair(), [("b", (0, 0)), ("a", (0, 0))]), False)
        self.assertIs(is_way(pair(), [("a", (1, 0)), ("a", (0, 1)), ("a", (1, 0))]), False)
        self.assertIs(is_way(pair(), [("a", (2, 2)), ("b", (2, 1))]), False)
        self.assertIs(is_way(trio(), [("b", (3,)), ("a", (1,))]), False)

    def test_ways_are_not_turned_round(self):
        way = [("a", (1, 0)), ("a", (0, 1)), ("b", (0, 1)), ("b", (1, 0))]
        self.assertIs(is_way(pair(), way[::-1]), False)

    def test_each_step_counts(self):
        way = [("a", (1, 0)), ("a", (0, 1)), ("b", (0, 1)), ("b", (1, 0))]
        for left_out in (1, 2):
            self.assertIs(is_way(pair(), way[:left_out] + way[left_out + 1:]), False)

    def test_cells_outside(self):
        down = System(1, [("a", 0, [("a", (3,), 1)])])
        self.assertIs(is_way(down, [("a", (4,)), ("a", (1,))]), True)
        self.assertIs(is_way(down, [("a", (2,)), ("a", (-1,))]), False)
        self.assertIs(is_way(down, [("a", (-1,))]), False)
        self.assertIs(is_way(down, [("a", (-1,)), ("a", (-4,))]), False)
        up = System(1, [("a", 0, [("a", (-3,), 1)])])
        self.assertIs(is_way(up, [("a", (-1,)), ("a", (2,))]), False)
        self.assertIs(is_way(up, [("a", (0,)), ("a", (3,))]), True)

    def test_other_names(self):
        self.assertIs(is_way(pair(), [("c", (0, 0))]), False)
        self.assertIs(is_way(pair(), [("a", (1, 0)), ("c", (0, 1))]), False)
        self.assertIs(is_way(pair(), [("c", (1, 0)), ("a", (0, 1))]), False)
        self.assertIs(is_way(pair(), [("", (1, 0))]), False)

    def test_points_of_another_length(self):
        for point in ((), (1,), (1, 0, 0)):
            self.assertIs(is_way(pair(), [("a", point)]), False)
            self.assertIs(is_way(pair(), [("a", (1, 0)), ("a", point)]), False)
            self.assertIs(is_way(pair(), [("a", point), ("a", (0, 1))]), False)

    def test_the_last_cell_is_checked_too(self):
        self.assertIs(is_way(pair(), [("a", (1, 0)), ("b", (1, 0)), ("b", (2, -1))]), False)


class NamesTest(unittest.TestCase):
    def test_defined_in_the_file(self):
        for function in (is_way, reads_from):
            self.assertEqual(function.__module__, "farreads.cells")


if __name__ == "__main__":
    unittest.main()
