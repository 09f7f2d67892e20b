"""[2]: arguments stay as they are and are not kept, returned lists are new; arguments by position or by name."""

import copy
import unittest

from samples import error_of, pair, trio

from farreads.cells import is_way, reads_from
from farreads.systems import System


def rows():
    return [("b", 1, [("b", (-1, 1), 1), ("a", (0, 1), 1)]), ("a", 0, [("a", (1, -1), 1), ("b", (0, 0), 1)])]


class UnchangedTest(unittest.TestCase):
    def check(self, call, *given):
        before = copy.deepcopy(given)
        call(*given)
        self.assertEqual(given, before)

    def check_error(self, call, *given):
        before = copy.deepcopy(given)
        self.assertIsNotNone(error_of(call, *given))
        self.assertEqual(given, before)

    def test_calls_that_return(self):
        self.check(System, 2, rows(), 97)
        self.check(pair().without, [("b", 1), ("a", 0), ("b", 1)])
        self.check(pair().renamed, {"b": "a", "a": "b"})
        self.check(pair().exchanged, (1, 0))
        self.check(reads_from, pair(), ("a", (3, 4)))
        self.check(is_way, pair(), [("a", (1, 0)), ("a", (0, 1)), ("b", (0, 1))])
        self.check(is_way, pair(), [("a", (1, 0)), ("a", (-1, 1)), ("q", ())])

    def test_calls_that_raise(self):
        self.check_error(System, 2, rows() + rows(), 97)
        self.check_error(pair().without, [("b", 1), ("a", 9)])
        self.check_error(pair().renamed, {"b": "a", "a": "C"})

    def test_dicts_keep_their_sequence(self):
        names = {"b": "y", "a": "x"}
        pair().renamed(names)
        self.assertEqual(list(names), ["b", "a"])

    def test_a_system_never_changes(self):
        system, other = pair(), System(2, [("c", 0, [])], 97)
        system.without([("a", 0)])
        system.beside(other)
        system.renamed({"a": "z"})
        system.exchanged((1, 0))
        reads_from(system, ("a", (1, 0)))
        error_of(system.without, [("a", 0), ("a", 9)])
        error_of(system.renamed, {"a": "z", "b": "z"})
        error_of(system.beside, system)
        self.assertTrue(system == pair())
        self.assertTrue(other == System(2, [("c", 0, [])], 97))
        self.assertEqual([system.names, system.reads("a")], [["a", "b"], pair().reads("a")])


class NotKeptTest(unittest.TestCase):
    def test_tables(self):
        given = rows()
        system = System(2, given, 97)
        given[0][2].append(("a", (1, 1), 1))
        given[1][2].clear()
        given.pop()
        self.assertTrue(system == pair())
        self.assertEqual(system.all_reads(), pair().all_reads())

    def test_one_list_for_two_tables(self):
        reads = [("a", (1,), 1)]
        system = System(1, [("a", 0, reads), ("b", 0, reads)])
        reads.append(("b", (1,), 1))
        self.assertEqual(system.all_reads(), [("a", 0), ("b", 0)])

    def test_reads_left_out(self):
        reads = [("a", 0)]
        left = pair().without(reads)
        reads.append(("b", 0))
        self.assertEqual(len(left.all_reads()), 3)

    def test_new_names(self):
        names = {"a": "z"}
        new = pair().renamed(names)
        names["b"] = "y"
        del names["a"]
        self.assertEqual(new.names, ["b", "z"])


class NewListsTest(unittest.TestCase):
    def test_lists_of_a_system(self):
        system = pair()
        for call in (lambda: system.names, lambda: system.reads("b"), system.all_reads):
            before = list(call())
            call().append("x")
            call().clear()
            self.assertEqual(call(), before)
        self.assertTrue(system == pair())

    def test_lists_of_systems_made_from_others(self):
        system = trio()
        for made in (
            system.without([]),
            system.renamed({}),
            system.exchanged((0,)),
            system.beside(System(1, [("x", 0, [])])),
        ):
            made.reads("a").clear()
            made.names.clear()
            self.assertEqual(made.reads("a"), trio().reads("a"))
        self.assertTrue(system == trio())

    def test_read_cells(self):
        system = pair()
        reads_from(system, ("a", (1, 0))).clear()
        self.assertEqual(reads_from(system, ("a", (1, 0))), [("a", (0, 1)), ("b", (1, 0))])
        self.assertTrue(system == pair())

    def test_kinds(self):
        system = pair()
        for found in (system.names, system.reads("a"), system.all_reads(), reads_from(system, ("a", (1, 1)))):
            self.assertIs(type(found), list)
        self.assertIs(type(len(system)), int)
        for read in system.exchanged((1, 0)).reads("a") + system.renamed({"a": "x"}).reads("b"):
            self.assertEqual([type(read), type(read[1])], [tuple, tuple])
        for cell in reads_from(system, ("a", (1, 1))):
            self.assertEqual([type(cell), type(cell[1])], [tuple, tuple])


class NamesOfArgumentsTest(unittest.TestCase):
    def test_system(self):
        plain = System(2, rows(), 97)
        self.assertTrue(System(dimensions=2, tables=rows(), modulus=97) == plain)
        self.assertTrue(System(modulus=97, tables=rows(), dimensions=2) == plain)
        self.assertTrue(System(2, rows(), modulus=97) == plain)
        self.assertTrue(System(dimensions=2, tables=rows()) == System(2, rows(), 1000003))
        self.assertEqual(System(2, rows()).modulus, 1000003)

    def test_methods(self):
        system, other = pair(), System(2, [("c", 0, [])], 97)
        self.assertEqual(system.constant(name="b"), system.constant("b"))
        self.assertEqual(system.reads(name="b"), system.reads("b"))
        self.assertTrue(system.without(reads=[("a", 0)]) == system.without([("a", 0)]))
        self.assertTrue(system.beside(other=other) == system.beside(other))
        self.assertTrue(system.renamed(names={"a": "c"}) == system.renamed({"a": "c"}))
        self.assertTrue(system.exchanged(axes=(1, 0)) == system.exchanged((1, 0)))

    def test_functions(self):
        cell = ("a", (1, 0))
        self.assertEqual(reads_from(system=pair(), cell=cell), reads_from(pair(), cell))
        self.assertEqual(reads_from(cell=cell, system=pair()), [("a", (0, 1)), ("b", (1, 0))])
        self.assertIs(is_way(system=pair(), cells=[cell]), True)
        self.assertIs(is_way(cells=[], system=pair()), False)


class BoundsTest(unittest.TestCase):
    def test_values_handed_on_may_be_great(self):
        system = System(1, [("a", 10 ** 50, [("a", (10 ** 50,), -10 ** 50)])], 10 ** 50)
        again = System(system.dimensions, [("a", system.constant("a"), system.reads("a"))], system.modulus)
        self.assertTrue(system == again)
        self.assertEqual(reads_from(system, ("a", (10 ** 50,))), [("a", (0,))])
        self.assertEqual(reads_from(system, ("a", (10 ** 50 - 1,))), [])

    def test_any_number_of_calls_on_a_system(self):
        system = pair()
        for _ in range(1000):
            system = system.exchanged((1, 0)).renamed({"a": "b", "b": "a"})
        self.assertTrue(system == pair())


if __name__ == "__main__":
    unittest.main()
