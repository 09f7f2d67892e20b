"""The examples of the document and of the README, word for word."""

import doctest
import os
import unittest

SYSTEMS = """
>>> from farreads.systems import System
>>> pair = System(2, [('b', 1, [('b', (-1, 1), 1), ('a', (0, 1), 1)]), ('a', 0, [('a', (1, -1), 1), ('b', (0, 0), 1)])], 97)
>>> [pair.names, pair.all_reads(), pair.without([('b', 0)]).reads('b'), pair.renamed({'a': 'c'}).reads('b')[1], pair.exchanged((1, 0)).reads('a')[0]]
[['a', 'b'], [('a', 0), ('a', 1), ('b', 0), ('b', 1)], [('a', (0, 1), 1)], ('c', (0, 1), 1), ('a', (-1, 1), 1)]
"""

CELLS = """
>>> from farreads.cells import is_way, reads_from
>>> from farreads.systems import System
>>> pair = System(2, [('a', 0, [('a', (1, -1), 1), ('b', (0, 0), 1)]), ('b', 1, [('b', (-1, 1), 1), ('a', (0, 1), 1)])])
>>> [reads_from(pair, ('a', (1, 0))), reads_from(pair, ('b', (0, 0))), is_way(pair, [('a', (1, 0)), ('a', (0, 1)), ('b', (0, 1)), ('b', (1, 0))]), is_way(pair, [('b', (0, 0)), ('a', (0, 0))])]
[[('a', (0, 1)), ('b', (1, 0))], [], True, False]
"""

README = os.path.join(os.path.dirname(os.path.dirname(os.path.abspath(__file__))), "README.md")


class ExamplesTest(unittest.TestCase):
    def check(self, text, least):
        test = doctest.DocTestParser().get_doctest(text, {}, "example", None, 0)
        shown = []
        runner = doctest.DocTestRunner(verbose=False)
        runner.run(test, out=shown.append)
        self.assertEqual("".join(shown), "")
        self.assertGreaterEqual(runner.summarize(verbose=False).attempted, least)

    def test_systems(self):
        self.check(SYSTEMS, 3)

    def test_cells(self):
        self.check(CELLS, 4)

    def test_readme(self):
        with open(README, encoding="utf-8") as file:
            text = "\n".join(line for line in file.read().split("\n") if not line.startswith("```"))
        self.check(text, 4)


if __name__ == "__main__":
    unittest.main()
