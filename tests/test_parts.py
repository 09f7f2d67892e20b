"""The parts of the program behind the interface: points, pieces, fractions, polynomials, and greatest sums."""

import itertools
import random
import unittest
from fractions import Fraction

from samples import pair, trio

from farreads.pieces import links_of, piece_of, pieces, tables_of
from farreads.points import box, is_below, step_back
from farreads.polynomials import determinant, multiply, power_of_x, remainder
from farreads.quotients import common_denominator, fraction, lowest_terms, times_whole
from farreads.simplex import greatest


class PointsTest(unittest.TestCase):
    def test_step_back(self):
        self.assertEqual(step_back((3, 4), (1, -2)), (2, 6))
        self.assertEqual(step_back((3, 4), (3, 4)), (0, 0))
        self.assertIsNone(step_back((3, 4), (4, 0)))
        self.assertIsNone(step_back((3, 4), (0, 5)))

    def test_is_below(self):
        for low, point, right in (
            ((1, 2), (1, 2), True),
            ((1, 2), (2, 2), True),
            ((1, 2), (1, 3), True),
            ((1, 2), (0, 9), False),
            ((1, 2), (9, 1), False),
        ):
            self.assertIs(is_below(low, point), right)

    def test_box(self):
        self.assertEqual(box(1, 3), [(0,), (1,), (2,), (3,)])
        self.assertEqual(box(2, 1), [(0, 0), (0, 1), (1, 0), (1, 1)])
        self.assertEqual(box(3, 2), sorted(itertools.product(range(3), repeat=3)))


class PiecesTest(unittest.TestCase):
    def test_links(self):
        self.assertEqual(
            list(links_of(pair()).items()),
            [
                (("a", 0), ("a", "a", (1, -1))),
                (("a", 1), ("a", "b", (0, 0))),
                (("b", 0), ("b", "b", (-1, 1))),
                (("b", 1), ("b", "a", (0, 1))),
            ],
        )

    def test_one_piece(self):
        self.assertEqual(pieces(links_of(trio())), [links_of(trio())])
        self.assertEqual(pieces({}), [])

    def test_several(self):
        pairs = [("a", "a"), ("b", "c"), ("e", "d"), ("f", "a"), ("d", "b")]
        links = {row: (one, other, (0,)) for row, (one, other) in enumerate(pairs)}
        self.assertEqual([sorted(piece) for piece in pieces(links)], [[0, 3], [1, 2, 4]])
        self.assertEqual([sorted(piece) for piece in pieces({row: links[row] for row in (0, 1, 2)})], [[0], [1], [2]])


    def test_tables(self):
        self.assertEqual(tables_of(list(links_of(trio()).values())), ["a", "b", "c"])
        self.assertEqual(tables_of([("z", "b", (0,)), ("b", "b", (1,)), ("z", "x", (2,))]), ["b", "x", "z"])
        self.assertEqual(tables_of([]), [])


    def test_piece_of(self):
        pairs = [("a", "a"), ("b", "c"), ("e", "d"), ("f", "a"), ("d", "b")]
        links = {row: (one, other, (0,)) for row, (one, other) in enumerate(pairs)}
        for names, rows in (("af", [0, 3]), ("bcde", [1, 2, 4]), ("gz", [])):
            for name in names:
                self.assertEqual(sorted(piece_of(links, name)), rows)


class LowestTermsTest(unittest.TestCase):
    def test_known(self):
        self.assertEqual(lowest_terms([4, 6, 0]), [2, 3, 0])
        self.assertEqual(lowest_terms([12, 18, 27]), [4, 6, 9])
        self.assertEqual(lowest_terms([3, 7]), [3, 7])
        self.assertEqual(lowest_terms([0, 5, 0]), [0, 1, 0])
        self.assertEqual(lowest_terms([0, 0]), [0, 0])


    def test_fractions(self):
        for top, bottom, found in ((4, 6, (2, 3)), (0, 9, (0, 1)), (-4, 6, (-2, 3)), (9, 3, (3, 1)), (7, 1, (7, 1))):
            self.assertEqual(fraction(top, bottom), found)
            self.assertIs(type(fraction(top, bottom)), tuple)

    def test_common_denominator(self):
        self.assertEqual(common_denominator([]), 1)
        self.assertEqual(common_denominator([(1, 4), (5, 6), (-3, 1)]), 12)
        self.assertEqual(common_denominator([(1, 10 ** 40), (5, 3)]), 3 * 10 ** 40)
        self.assertEqual([times_whole(number, 12) for number in ((1, 4), (5, 6), (-3, 1), (0, 1))], [3, 10, -36, 0])


class PolynomialsTest(unittest.TestCase):
    def check_same(self, one, other):
        self.assertEqual({at: part for at, part in one.items() if part}, {at: part for at, part in other.items() if part})

    def test_multiply(self):
        self.check_same(multiply({0: 1, 1: -1}, {0: 1, 1: 1}), {0: 1, 2: -1})
        self.check_same(multiply({-2: 3}, {2: 5, 0: 1}), {0: 15, -2: 3})
        self.check_same(multiply({}, {2: 5}), {})

    def test_determinant(self):
        self.check_same(determinant([]), {0: 1})
        self.check_same(determinant([[{3: 4}]]), {3: 4})
        self.check_same(determinant([[{1: 2}, {-1: 3}], [{2: 5}, {0: 7}]]), {1: 14 - 15})
        self.check_same(determinant([[{}, {0: 1}, {}], [{}, {}, {0: 1}], [{5: 1}, {}, {}]]), {5: 1})
        self.check_same(determinant([[{}, {0: 1}], [{0: 1}, {}]]), {0: -1})

    def test_remainder(self):
        self.assertEqual(remainder([0, 0, 1], [1, -1, -1], 97), [1, 1])
        self.assertEqual(remainder([0, 0, 0, 0, 0, 0, 1], [1, -1, -1], 97), [5, 8])
        self.assertEqual(remainder([3, 4], [1, -1, -1], 97), [3, 4])
        self.assertEqual(remainder([-3, 98], [1, -1, -1], 97), [94, 1])

    def test_power_of_x(self):
        self.assertEqual(power_of_x(0, [1, -1, -1], 97), [1, 0])
        self.assertEqual(power_of_x(1, [1, -1, -1], 97), [0, 1])
        self.assertEqual(power_of_x(10, [1, -1, -1], 97), [34, 55])
        self.assertEqual([power_of_x(at, [1, -3], 100) for at in (0, 1, 2, 5)], [[1], [3], [9], [43]])


class GreatestTest(unittest.TestCase):
    def check(self, rows, limits, worths, best):
        """Check that a solution is allowed and has the best worth."""
        found, prices, scale = greatest(rows, limits, worths)
        self.assertGreater(scale, 0)
        self.assertTrue(all(number >= 0 for number in found + prices))
        self.assertEqual([len(found), len(prices)], [len(worths), len(rows)])
        for at, worth in enumerate(worths):
            self.assertGreaterEqual(sum(row[at] * price for row, price in zip(rows, prices)), worth * scale)
        self.assertEqual(Fraction(sum(one * other for one, other in zip(limits, prices)), scale), best)
        for row, limit in zip(rows, limits):
            self.assertLessEqual(sum(one * other for one, other in zip(row, found)), limit * scale)
        self.assertEqual(Fraction(sum(one * other for one, other in zip(worths, found)), scale), best)

    def test_one_unknown(self):
        self.check([[1]], [7], [1], 7)
        self.check([[1], [1]], [7, 5], [3], 15)
        self.check([[2], [3]], [7, 5], [3], 5)
        self.check([[1]], [7], [-1], 0)
        self.check([[1]], [7], [0], 0)

    def test_two_unknowns(self):
        self.check([[1, 1], [1, 3]], [4, 6], [1, 2], 5)
        self.check([[2, 1], [1, 2]], [4, 4], [3, 3], 8)
        self.check([[2, 1], [1, 3]], [4, 4], [1, 1], Fraction(12, 5))
        self.check([[1, -1], [0, 1]], [0, 1], [1, 0], 1)

    def test_limits_of_zero(self):
        self.check([[1, -1], [-1, 1], [1, 1]], [0, 0, 2], [5, 1], 6)
        self.check([[1, 2], [1, 1]], [0, 9], [1, 1], 0)

    def test_constraints_with_which_a_careless_choice_runs_in_a_round(self):
        # Beale's example, with all factors multiplied by 100.
        rows = [[25, -6000, -4, 900], [50, -9000, -2, 300], [0, 0, 100, 0]]
        self.check(rows, [0, 0, 100], [75, -15000, 2, -600], 5)

    def test_constraints_with_which_other_choices_run_in_a_round(self):
        rows = [[-3, 5, -7], [-4, 9, -10], [5, 4, -7], [1, 1, 1]]
        self.check(rows, [0, 0, 0, 1], [1, 1, 1], 1)
        rows = [[1, -1, 0, -5], [3, -2, -2, -1], [1, -2, -2, 2], [1, 1, 1, 1]]
        self.check(rows, [0, 0, 0, 1], [5, -4, -5, 3], Fraction(14, 17))
        self.check([[4, -7, 1, -4], [-6, -1, 3, -1], [1, 1, 1, 1]], [0, 0, 1], [6, -6, 5, -8], Fraction(121, 42))
        rows = [[-3, -5, -3, 4, -4], [-1, 1, -4, 2, 0], [2, 4, -5, 2, 4], [1] * 5]
        self.check(rows, [0, 0, 0, 1], [1, 5, -1, -2, 3], Fraction(7, 3))
        rows = [[4, 3, 4, 5, -4], [-1, 0, 4, 0, -1], [-3, -2, 3, -3, 2], [1] * 5]
        self.check(rows, [0, 0, 0, 1], [2, 3, 1, 2, -5], 0)
        rows = [[8, 2, 0, -3, 4], [9, 2, 5, 1, 6], [-3, 4, 0, -3, 9], [1] * 5]
        self.check(rows, [0, 0, 0, 1], [1, -1, 1, 7, 4], 0)

    def test_prices(self):
        self.assertEqual(greatest([[1], [1]], [7, 5], [3]), ([5], [0, 3], 1))
        self.assertEqual(greatest([[2], [3]], [7, 5], [3]), ([5], [0, 3], 3))
        self.assertEqual(greatest([[1]], [7], [-1]), ([0], [0], 1))

    def test_no_greatest_sum(self):
        self.assertIsNone(greatest([[0]], [7], [1]))
        self.assertIsNone(greatest([[-1]], [7], [1]))
        self.assertIsNone(greatest([[1, -1]], [7], [1, 1]))
        self.assertIsNone(greatest([[1, -1], [-1, 1]], [0, 0], [1, 1]))
        self.assertIsNone(greatest([[1, 0, -1], [0, 1, 0]], [3, 3], [1, 1, 1]))
        self.assertIsNone(greatest([], [], [1]))
        self.check([[1, -1], [-1, 1]], [0, 0], [1, -1], 0)
        self.check([[0, 1]], [7], [0, 2], 14)

    def test_nothing_unknown(self):
        self.assertEqual(greatest([[], []], [1, 0], []), ([], [0, 0], 1))

    def test_beside_a_search_over_whole_numbers(self):
        chance = random.Random(120)
        for _ in range(150):
            # With factors of 0 and 1 in runs, the best numbers are whole.
            rows, limits = [], []
            for _ in range(chance.randint(1, 3)):
                first = chance.randint(0, 2)
                last = chance.randint(first, 2)
                rows.append([int(first <= at <= last) for at in range(3)])
                limits.append(chance.randint(0, 3))
            rows += [[int(at == row) for at in range(3)] for row in range(3)]
            limits += [3, 3, 3]
            worths = [chance.randint(-3, 5) for _ in range(3)]
            best = max(
                sum(one * other for one, other in zip(worths, point))
                for point in itertools.product(range(4), repeat=3)
                if all(sum(a * b for a, b in zip(row, point)) <= limit for row, limit in zip(rows, limits))
            )
            self.check(rows, limits, worths, best)


if __name__ == "__main__":
    unittest.main()
