"""The examples of the document and of the README, word for word."""

import doctest
import os
import unittest

SYSTEMS = """
>>> from farreads.systems import System
>>> pair = System(2, [('b', 1, [('b', (-1, 1), 1), ('a', (0, 1), 1)]), ('a', 0, [('a', (1, -1), 1), ('b', (0, 0), 1)])], 97)
>>> [pair.names, pair.all_reads(), pair.without([('b', 0)]).reads('b'), pair.renamed({'a': 'c'}).reads('b')[1], pair.exchanged((1, 0)).reads('a')[0]]
[['a', 'b'], [('a', 0), ('a', 1), ('b', 0), ('b', 1)], [('a', (0, 1), 1)], ('c', (0, 1), 1), ('a', (-1, 1), 1)]
"""

CELLS = """
>>> from farreads.cells import is_way, reads_from
>>> from farreads.systems import System
>>> pair = System(2, [('a', 0, [('a', (1, -1), 1), ('b', (0, 0), 1)]), ('b', 1, [('b', (-1, 1), 1), ('a', (0, 1), 1)])])
>>> [reads_from(pair, ('a', (1, 0))), reads_from(pair, ('b', (0, 0))), is_way(pair, [('a', (1, 0)), ('a', (0, 1)), ('b', (0, 1)), ('b', (1, 0))]), is_way(pair, [('b', (0, 0)), ('a', (0, 0))])]
[[('a', (0, 1)), ('b', (1, 0))], [], True, False]
"""

READY = """
>>> from farreads.ready import endless_way, is_ready, least_unready, shows_endless
>>> from farreads.systems import System
>>> from farreads.ways import a_longest_way, longest_way, needed
>>> pair = System(2, [('a', 0, [('a', (1, -1), 1), ('b', (0, 0), 1)]), ('b', 1, [('b', (-1, 1), 1), ('a', (0, 1), 1)])])
>>> both = System(2, [('a', 1, [('a', (1, -1), 1), ('a', (-1, 1), 1)])])
>>> [longest_way(pair, ('a', (1, 0))), a_longest_way(pair, ('a', (0, 1))), needed(pair, ('b', (0, 1))), is_ready(both, ('a', (0, 0))), least_unready(both, 'a', 3), shows_endless(both, ('a', (1, 0)), endless_way(both, ('a', (1, 0))))]
[4, [('a', (0, 1)), ('b', (0, 1)), ('a', (0, 0)), ('b', (0, 0))], [('b', (0, 0)), ('b', (1, 0)), ('a', (0, 0)), ('b', (0, 1))], True, [(0, 1), (1, 0)], True]
"""

LEVELS = """
>>> from farreads.levels import count_levels, drop, is_schedule, schedule, stuck_reads
>>> from farreads.systems import System
>>> from farreads.walks import blocks, closed_walk, walk_sum
>>> pair = System(2, [('a', 0, [('a', (1, -1), 1), ('b', (0, 0), 1)]), ('b', 1, [('b', (-1, 1), 1), ('a', (0, 1), 1)])])
>>> both = System(2, [('a', 1, [('a', (1, -1), 1), ('a', (-1, 1), 1)])])
>>> first, second = {'a': ((2, 2), 1), 'b': ((2, 2), 0)}, {'a': ((1, 0), 0), 'b': ((0, 1), 0)}
>>> [count_levels(pair), stuck_reads(pair), is_schedule(pair, [first, second]), is_schedule(pair, [second, first]), drop(pair, first, ('b', 1)), is_schedule(pair, schedule(pair)), closed_walk(pair), blocks(both, closed_walk(both)), blocks(both, [('a', 0), ('a', 1)]), walk_sum(both, [('a', 0), ('a', 0)]), count_levels(both)]
[2, [('a', 0), ('b', 0)], True, False, 1, True, None, True, True, (2, -2), None]
"""

BOUNDS = """
>>> from farreads.bounds import bound_numbers, bound_worth, flow_weights, flow_worth, way_bound
>>> from farreads.systems import System
>>> chain = System(1, [('a', 0, [('b', (-3,), 1)]), ('b', 1, [('a', (4,), 1)])])
>>> far = ('a', (10 ** 30,))
>>> [way_bound(chain, ('a', (10,))), bound_worth(chain, ('a', (10,)), (((2, 1),), {'a': (7, 1), 'b': (0, 1)})), flow_worth(chain, ('a', (10,)), {('a', 0): (14, 1), ('b', 0): (13, 1)}), way_bound(chain, far) == bound_worth(chain, far, bound_numbers(chain, far)), way_bound(chain, far) == flow_worth(chain, far, flow_weights(chain, far))]
[(27, 1), (27, 1), (27, 1), True, True]
"""

SHIFTS = """
>>> from farreads.shifts import barring_walk, bars, greatest_shifts, shifted
>>> from farreads.systems import System
>>> chain = System(1, [('a', 0, [('b', (-3,), 1)]), ('b', 1, [('a', (4,), 1)])])
>>> moved = shifted(chain, greatest_shifts(chain))
>>> [greatest_shifts(chain), moved.reads('a'), moved.reads('b'), barring_walk(chain), bars(System(1, [('a', 0, [('a', (-1,), 1)])]), [('a', 0)])]
[{'a': (-3,), 'b': (0,)}, [('b', (0,), 1)], [('a', (1,), 1)], None, True]
"""

CUTS = """
>>> from farreads.cuts import fewest_cuts, must_go
>>> from farreads.systems import System
>>> both = System(2, [('a', 1, [('a', (1, -1), 1), ('a', (-1, 1), 1)])])
>>> [fewest_cuts(both), must_go(both), fewest_cuts(both.without([('a', 0)]))]
[[('a', 0)], [('a', 0), ('a', 1)], []]
"""

VALUES = """
>>> from farreads.far import far_value
>>> from farreads.systems import System
>>> from farreads.values import value, values_in
>>> pair = System(2, [('a', 0, [('a', (1, -1), 1), ('b', (0, 0), 1)]), ('b', 1, [('b', (-1, 1), 1), ('a', (0, 1), 1)])])
>>> grow = System(1, [('a', 0, [('u', (0,), 1), ('a', (1,), 1), ('a', (2,), 1)]), ('u', 1, [('w', (1,), -1)]), ('w', 1, [])], 1000)
>>> [value(pair, ('a', (1, 0))), values_in(pair, 'b', 1)[(0, 1)], far_value(grow, 'a', 11), value(grow, ('a', (16,))), far_value(grow, 'a', 10 ** 30) == far_value(grow, 'a', 1000)]
[4, 3, 144, 597, True]
"""

SHEETS = """
>>> from farreads.sheets import Sheet
>>> sheet = Sheet.of_text('2 mod 97: a = 1 + a[1 -1]')
>>> [sheet.add('a', ('a', (-1, 1), 2)), list(sheet.unready()), sheet.drop('a', 0), sheet.put('a', 5), sheet.undo(), sheet.system.constant('a')]
[(1, None), [('a', (0, 1)), ('a', (1, 0))], (None, 1), (1, 1), None, 1]
"""

TEXTS = """
>>> from farreads.systems import System
>>> from farreads.texts import show_cell, show_system
>>> [show_system(System(2, [('b', 0, []), ('a', -1, [('b', (1, 0), 2), ('a', (0, -1), -1)])], 97)), show_cell(('a', (3, 4)))]
['2 mod 97: a = -1 + 2 b[1 0] - a[0 -1]; b = 0', 'a[3 4]']
"""

READINGS = """
>>> from farreads.readings import read_cell, read_system
>>> [read_cell('a[3 4]'), read_system('2 mod 97: a = 0 - 2 a[1 0]').reads('a')]
[('a', (3, 4)), [('a', (1, 0), -2)]]
"""

HERE = os.path.dirname(os.path.abspath(__file__))
README = os.path.join(os.path.dirname(HERE), "README.md")


class ExamplesTest(unittest.TestCase):
    def check(self, text, least):
        test = doctest.DocTestParser().get_doctest(text, {}, "example", None, 0)
        shown = []
        runner = doctest.DocTestRunner(verbose=False)
        runner.run(test, out=shown.append)
        self.assertEqual("".join(shown), "")
        self.assertGreaterEqual(runner.summarize(verbose=False).attempted, least)

    def test_systems(self):
        self.check(SYSTEMS, 3)

    def test_cells(self):
        self.check(CELLS, 4)

    def test_ready(self):
        self.check(READY, 6)

    def test_levels(self):
        self.check(LEVELS, 7)

    def test_bounds(self):
        self.check(BOUNDS, 5)

    def test_shifts(self):
        self.check(SHIFTS, 5)

    def test_cuts(self):
        self.check(CUTS, 4)

    def test_values(self):
        self.check(VALUES, 6)

    def test_sheets(self):
        self.check(SHEETS, 3)

    def test_texts(self):
        self.check(TEXTS, 3)

    def test_readings(self):
        self.check(READINGS, 2)

    def test_readme(self):
        with open(README, encoding="utf-8") as file:
            text = "\n".join(line for line in file.read().split("\n") if not line.startswith("```"))
        self.check(text, 15)


if __name__ == "__main__":
    unittest.main()
