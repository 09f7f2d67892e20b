"""[4]: systems, their properties, methods and errors."""

import unittest
from unittest import mock

from samples import LETTERS, error_of, pair, trio

from farreads.systems import System


class PropertiesTest(unittest.TestCase):
    def test_properties_and_length(self):
        self.assertEqual([pair().dimensions, pair().modulus, pair().names, len(pair())], [2, 97, ["a", "b"], 2])
        self.assertEqual([trio().dimensions, trio().modulus, trio().names, len(trio())], [1, 1000003, ["a", "b", "c"], 3])

    def test_length_is_that_of_the_tables(self):
        for many in (1, 2, 5, 6):
            self.assertEqual(len(System(3, [(LETTERS[at], 0, []) for at in range(many)])), many)

    def test_names_are_sorted_as_strings(self):
        rows = [(name, 0, []) for name in ("b", "ab", "a", "abc", "z", "aab")]
        self.assertEqual(System(1, rows).names, ["a", "aab", "ab", "abc", "b", "z"])

    def test_properties_cannot_be_set(self):
        for name in ("dimensions", "modulus", "names"):
            with self.assertRaises(AttributeError):
                setattr(pair(), name, 3)

    def test_each_method_is_in_the_class_itself(self):
        listed = "__init__ __len__ __eq__ dimensions modulus names constant reads all_reads without beside renamed exchanged"
        for name in listed.split():
            self.assertIn(name, vars(System))
        self.assertEqual(System.__module__, "farreads.systems")


class TablesTest(unittest.TestCase):
    def test_constant(self):
        self.assertEqual([trio().constant(name) for name in "abc"], [5, -7, 0])

    def test_constant_is_not_reduced(self):
        self.assertEqual(System(1, [("a", 99, [])], 2).constant("a"), 99)
        self.assertEqual(System(1, [("a", -99, [])], 2).constant("a"), -99)

    def test_reads_in_their_sequence(self):
        self.assertEqual(pair().reads("b"), [("b", (-1, 1), 1), ("a", (0, 1), 1)])
        self.assertEqual(trio().reads("a"), [("b", (1,), 2), ("a", (2,), -3), ("c", (0,), 4), ("b", (1,), 2)])
        self.assertEqual(System(1, [("a", 0, [])]).reads("a"), [])

    def test_unknown_tables(self):
        for name in ("c", "", "A", "aa"):
            self.assertEqual(error_of(pair().constant, name), ("UnknownTable", name))
            self.assertEqual(error_of(pair().reads, name), ("UnknownTable", name))

    def test_all_reads(self):
        self.assertEqual(pair().all_reads(), [("a", 0), ("a", 1), ("b", 0), ("b", 1)])
        self.assertEqual(
            trio().all_reads(), [("a", 0), ("a", 1), ("a", 2), ("a", 3), ("b", 0), ("c", 0), ("c", 1)]
        )
        self.assertEqual(System(1, [("b", 0, []), ("a", 0, [])]).all_reads(), [])

    def test_all_reads_are_ordered_by_number(self):
        rows = [("b", 0, [("b", (1,), 1)]), ("a", 0, [("b", (1,), 1)] * 11)]
        self.assertEqual(System(1, rows).all_reads(), [("a", at) for at in range(11)] + [("b", 0)])


class EqualityTest(unittest.TestCase):
    def rows(self):
        return [("b", 1, [("b", (-1, 1), 1), ("a", (0, 1), 1)]), ("a", 0, [("a", (1, -1), 1)])]

    def test_equal(self):
        self.assertTrue(pair() == pair())
        self.assertFalse(pair() != pair())
        self.assertTrue(System(2, self.rows()) == System(2, self.rows(), 1000003))

    def test_another_sequence_of_tables_is_equal(self):
        self.assertTrue(System(2, self.rows()) == System(2, self.rows()[::-1]))

    def test_another_sequence_of_reads_is_not(self):
        turned = [(name, constant, reads[::-1]) for name, constant, reads in self.rows()]
        self.assertFalse(System(2, self.rows()) == System(2, turned))
        self.assertTrue(System(2, self.rows()) != System(2, turned))

    def test_another_modulus_is_not(self):
        self.assertFalse(System(2, self.rows(), 97) == System(2, self.rows(), 98))

    def test_other_dimensions_are_not(self):
        self.assertFalse(System(1, [("a", 0, [])]) == System(2, [("a", 0, [])]))

    def test_other_tables_are_not(self):
        plain = System(1, [("a", 0, [("a", (1,), 1)])])
        others = [
            [("b", 0, [("b", (1,), 1)])],
            [("a", 1, [("a", (1,), 1)])],
            [("a", 0, [("a", (2,), 1)])],
            [("a", 0, [("a", (1,), 2)])],
            [("a", 0, [])],
            [("a", 0, [("a", (1,), 1), ("a", (1,), 1)])],
            [("a", 0, [("a", (1,), 1)]), ("b", 0, [])],
            [("a", 0, [("b", (1,), 1)]), ("b", 0, [])],
        ]
        for rows in others:
            with self.subTest(rows=rows):
                self.assertFalse(plain == System(1, rows))
                self.assertFalse(System(1, rows) == plain)

    def test_constants_are_compared_as_they_are(self):
        self.assertFalse(System(1, [("a", 0, [])], 7) == System(1, [("a", 7, [])], 7))

    def test_other_kinds_of_values(self):
        for other in (None, 0, 2, "pair", (), [], {}, ["a", "b"], System, object(), mock.ANY):
            self.assertFalse(pair() == other)
            self.assertTrue(pair() != other)


class WithoutTest(unittest.TestCase):
    def test_no_reads(self):
        self.assertTrue(trio().without([]) == trio())

    def test_the_numbers_after_them_become_less(self):
        left = trio().without([("a", 1), ("c", 0)])
        self.assertEqual(left.reads("a"), [("b", (1,), 2), ("c", (0,), 4), ("b", (1,), 2)])
        self.assertEqual(left.reads("b"), [("a", (3,), 1)])
        self.assertEqual(left.reads("c"), [("a", (5,), -9)])
        self.assertEqual([left.constant(name) for name in "abc"], [5, -7, 0])
        self.assertEqual([left.dimensions, left.modulus, left.names], [1, 1000003, ["a", "b", "c"]])

    def test_numbers_are_those_of_the_whole_system(self):
        left = trio().without([("a", 0), ("a", 3), ("a", 1)])
        self.assertEqual(left.reads("a"), [("c", (0,), 4)])

    def test_equal_reads_are_told_apart(self):
        left = trio().without([("a", 3)])
        self.assertEqual(left.reads("a"), [("b", (1,), 2), ("a", (2,), -3), ("c", (0,), 4)])

    def test_a_read_named_several_times(self):
        self.assertTrue(trio().without([("a", 0)] * 3) == trio().without([("a", 0)]))
        self.assertEqual(len(trio().without([("a", 0), ("b", 0), ("a", 0)]).all_reads()), 5)

    def test_all_reads(self):
        empty = trio().without(trio().all_reads())
        self.assertEqual(empty.all_reads(), [])
        self.assertEqual(empty.names, ["a", "b", "c"])
        self.assertTrue(empty.without([]) == empty)

    def test_errors(self):
        for wrong in (("a", 4), ("a", -1), ("b", 1), ("q", 0), ("", 0), ("a", 10 ** 30)):
            self.assertEqual(error_of(trio().without, [wrong]), ("InvalidRead", wrong))
            self.assertEqual(error_of(trio().without, [("a", 0), wrong, ("c", 1)]), ("InvalidRead", wrong))

    def test_the_first_of_several_errors(self):
        self.assertEqual(error_of(trio().without, [("a", 0), ("z", 1), ("a", 9)]), ("InvalidRead", ("z", 1)))
        self.assertEqual(error_of(trio().without, [("a", 9), ("z", 1)]), ("InvalidRead", ("a", 9)))

    def test_a_table_without_reads(self):
        self.assertEqual(error_of(System(1, [("a", 0, [])]).without, [("a", 0)]), ("InvalidRead", ("a", 0)))


class BesideTest(unittest.TestCase):
    def other(self):
        return System(1, [("x", 3, [("x", (1,), 1)]), ("ab", 4, [("x", (-2,), 5), ("ab", (0,), 1)])])

    def test_tables_of_both(self):
        both = trio().beside(self.other())
        self.assertEqual(both.names, ["a", "ab", "b", "c", "x"])
        self.assertEqual(len(both), 5)
        self.assertEqual([both.constant(name) for name in both.names], [5, 4, -7, 0, 3])
        self.assertEqual(both.reads("ab"), [("x", (-2,), 5), ("ab", (0,), 1)])
        self.assertEqual(both.reads("a"), trio().reads("a"))
        self.assertEqual(both.all_reads()[4:6], [("ab", 0), ("ab", 1)])

    def test_either_way_round(self):
        self.assertTrue(trio().beside(self.other()) == self.other().beside(trio()))

    def test_dimensions_and_modulus_stay(self):
        one, two = System(3, [("a", 0, [])], 7), System(3, [("b", 0, [])], 7)
        self.assertTrue(one.beside(two) == System(3, [("a", 0, []), ("b", 0, [])], 7))

    def test_up_to_six_tables_and_twelve_reads(self):
        one = System(1, [(name, 0, [("a", (1,), 1)] * 2) for name in "abc"])
        two = System(1, [(name, 0, [("d", (1,), 1)] * 2) for name in "def"])
        self.assertEqual([len(one.beside(two)), len(one.beside(two).all_reads())], [6, 12])

    def test_no_error_somewhat_beyond_the_limits(self):
        one = System(1, [(name, 0, [("a", (1,), 1)] * 2) for name in "abcd"])
        two = System(1, [(name, 0, [("e", (1,), 1)] * 3) for name in "efg"])
        both = one.beside(two)
        self.assertEqual([len(both), len(both.all_reads())], [7, 17])
        self.assertEqual(len(both.renamed({"a": "z"}).exchanged((0,)).without([("g", 0)]).all_reads()), 16)

    def test_the_first_name_that_both_have(self):
        self.assertEqual(error_of(trio().beside, System(1, [("c", 0, []), ("b", 0, [])])), ("InvalidName", "b"))
        self.assertEqual(error_of(trio().beside, System(1, [("c", 0, []), ("aa", 0, [])])), ("InvalidName", "c"))
        self.assertEqual(error_of(trio().beside, trio()), ("InvalidName", "a"))


class RenamedTest(unittest.TestCase):
    def test_tables_and_reads_have_the_new_name(self):
        new = trio().renamed({"a": "zz"})
        self.assertEqual(new.names, ["b", "c", "zz"])
        self.assertEqual(new.reads("zz"), [("b", (1,), 2), ("zz", (2,), -3), ("c", (0,), 4), ("b", (1,), 2)])
        self.assertEqual(new.reads("b"), [("zz", (3,), 1)])
        self.assertEqual(new.reads("c"), [("c", (-1,), 9), ("zz", (5,), -9)])
        self.assertEqual([new.constant(name) for name in new.names], [-7, 0, 5])
        self.assertEqual([new.dimensions, new.modulus], [1, 1000003])

    def test_no_names(self):
        self.assertTrue(trio().renamed({}) == trio())

    def test_a_name_to_itself(self):
        self.assertTrue(trio().renamed({"a": "a"}) == trio())
        self.assertTrue(trio().renamed({"a": "a", "b": "b", "c": "c"}) == trio())

    def test_names_exchanged(self):
        new = pair().renamed({"a": "b", "b": "a"})
        self.assertEqual(new.names, ["a", "b"])
        self.assertEqual([new.constant("a"), new.constant("b")], [1, 0])
        self.assertEqual(new.reads("a"), [("a", (-1, 1), 1), ("b", (0, 1), 1)])
        self.assertEqual(new.reads("b"), [("b", (1, -1), 1), ("a", (0, 0), 1)])
        self.assertEqual(new.all_reads(), [("a", 0), ("a", 1), ("b", 0), ("b", 1)])
        self.assertTrue(new.renamed({"b": "a", "a": "b"}) == pair())

    def test_names_passed_on(self):
        new = trio().renamed({"a": "b", "b": "c", "c": "d"})
        self.assertEqual(new.names, ["b", "c", "d"])
        self.assertEqual([new.constant(name) for name in new.names], [5, -7, 0])
        self.assertEqual(new.reads("c"), [("b", (3,), 1)])

    def test_unknown_tables(self):
        self.assertEqual(error_of(trio().renamed, {"q": "x"}), ("UnknownTable", "q"))
        self.assertEqual(error_of(trio().renamed, {"q": "x", "p": "y", "a": "z"}), ("UnknownTable", "p"))
        self.assertEqual(error_of(trio().renamed, {"A": "x"}), ("UnknownTable", "A"))

    def test_no_names_for_tables(self):
        for wrong in ("", "abcdefghi", "B", "a b", "a1", "-"):
            self.assertEqual(error_of(trio().renamed, {"b": wrong}), ("InvalidName", wrong))
        self.assertEqual(trio().renamed({"b": "abcdefgh"}).names, ["a", "abcdefgh", "c"])

    def test_names_of_two_tables(self):
        self.assertEqual(error_of(trio().renamed, {"a": "b"}), ("InvalidName", "b"))
        self.assertEqual(error_of(trio().renamed, {"c": "x", "a": "x"}), ("InvalidName", "x"))
        self.assertEqual(error_of(trio().renamed, {"a": "b", "b": "b"}), ("InvalidName", "b"))

    def test_unknown_tables_before_wrong_names(self):
        self.assertEqual(error_of(trio().renamed, {"a": "", "z": "x"}), ("UnknownTable", "z"))
        self.assertEqual(error_of(trio().renamed, {"a": "b", "z": "x"}), ("UnknownTable", "z"))

    def test_the_first_key_with_a_wrong_name(self):
        self.assertEqual(error_of(trio().renamed, {"c": "C", "a": "b"}), ("InvalidName", "b"))
        self.assertEqual(error_of(trio().renamed, {"c": "b", "a": "A"}), ("InvalidName", "A"))
        self.assertEqual(error_of(trio().renamed, {"c": "B", "b": "B1", "a": "x"}), ("InvalidName", "B1"))
        self.assertEqual(error_of(trio().renamed, {"c": "y", "b": "y", "a": "a"}), ("InvalidName", "y"))
        self.assertEqual(error_of(trio().renamed, {"c": "", "b": ""}), ("InvalidName", ""))


class ExchangedTest(unittest.TestCase):
    def space(self):
        return System(3, [("a", 4, [("a", (1, 2, 3), 7), ("b", (-4, 5, 0), 1)]), ("b", 2, [])], 11)

    def test_coordinate_i_is_what_axes_i_was(self):
        new = self.space().exchanged((1, 2, 0))
        self.assertEqual(new.reads("a"), [("a", (2, 3, 1), 7), ("b", (5, 0, -4), 1)])
        new = self.space().exchanged((2, 0, 1))
        self.assertEqual(new.reads("a"), [("a", (3, 1, 2), 7), ("b", (0, -4, 5), 1)])
        self.assertEqual([new.dimensions, new.modulus, new.names], [3, 11, ["a", "b"]])
        self.assertEqual([new.constant("a"), new.constant("b")], [4, 2])

    def test_axes_as_they_are(self):
        self.assertTrue(self.space().exchanged((0, 1, 2)) == self.space())
        self.assertTrue(pair().exchanged((0, 1)) == pair())
        self.assertTrue(trio().exchanged((0,)) == trio())

    def test_there_and_back(self):
        self.assertTrue(pair().exchanged((1, 0)).exchanged((1, 0)) == pair())
        self.assertTrue(self.space().exchanged((1, 2, 0)).exchanged((2, 0, 1)) == self.space())

    def test_errors(self):
        for wrong in ((), (0,), (0, 0), (1, 1), (0, 2), (1, 2), (-1, 0), (0, 1, 2), (0, 1, 1), (10 ** 30, 0)):
            self.assertEqual(error_of(pair().exchanged, wrong), ("InvalidAxes", wrong))
        for wrong in ((), (1,), (-1,), (0, 1), (0, 0)):
            self.assertEqual(error_of(trio().exchanged, wrong), ("InvalidAxes", wrong))
        for wrong in ((0, 1), (0, 1, 1), (1, 2, 3), (0, 1, 2, 3)):
            self.assertEqual(error_of(self.space().exchanged, wrong), ("InvalidAxes", wrong))


if __name__ == "__main__":
    unittest.main()
