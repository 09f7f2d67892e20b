"""[4]: System check, its borders and the order of its errors."""

import unittest

from samples import LETTERS, error_of

from farreads.systems import System

ROW = ("a", 0, [])


def self_read(name, dimensions=1, factor=1):
    return (name, (1,) * dimensions, factor)


def many_tables(many):
    return [(LETTERS[at], at, []) for at in range(many)]


def bad_tables():
    """Tables each of which is wrong for one reason, when they stand behind the good table ROW."""
    return [
        ("", 0, []),
        ("abcdefghi", 0, []),
        ("B", 0, []),
        ("b1", 0, []),
        ("b b", 0, []),
        ("b_", 0, []),
        ("`", 0, []),
        ("{", 0, []),
        ("a", 0, []),
        ("b", 0, [("", (1,), 1)]),
        ("b", 0, [("abcdefghi", (1,), 1)]),
        ("b", 0, [("A", (1,), 1)]),
        ("b", 0, [("a", (), 1)]),
        ("b", 0, [("a", (1, 1), 1)]),
        ("b", 0, [("a", (1,), 0)]),
        ("b", 0, [("a", (1,), 1), ("b", (1,), 1), ("b", (2,), 0)]),
        ("b", 0, [("a", (1,), 1)] * 13),
    ]


class BordersTest(unittest.TestCase):
    def test_dimensions(self):
        for wrong in (0, 4, -1, 10 ** 40):
            self.assertEqual(error_of(System, wrong, [ROW]), ("InvalidNumber", wrong))
        for many in (1, 2, 3):
            system = System(many, [("a", 0, [self_read("a", many)])])
            self.assertEqual(system.dimensions, many)

    def test_number_of_tables(self):
        self.assertEqual(error_of(System, 1, []), ("InvalidSystem", -1))
        self.assertEqual(error_of(System, 1, many_tables(7)), ("InvalidSystem", -1))
        for many in (1, 2, 3, 4, 5, 6):
            self.assertEqual(System(1, many_tables(many)).names, list(LETTERS[:many]))

    def test_number_of_reads_in_one_table(self):
        self.assertEqual(len(System(1, [("a", 0, [self_read("a")] * 12)]).reads("a")), 12)
        self.assertEqual(error_of(System, 1, [("a", 0, [self_read("a")] * 13)]), ("InvalidSystem", 0))

    def test_number_of_reads_of_all_tables(self):
        rows = [("a", 0, [self_read("b")] * 5), ("c", 0, []), ("b", 0, [self_read("a")] * 7)]
        self.assertEqual(len(System(1, rows).all_reads()), 12)
        rows.append(("d", 0, []))
        self.assertEqual(len(System(1, rows).all_reads()), 12)
        rows.append(("e", 0, [self_read("a")]))
        self.assertEqual(error_of(System, 1, rows), ("InvalidSystem", 4))

    def test_length_of_names(self):
        self.assertEqual(System(1, [("a", 0, [])]).names, ["a"])
        self.assertEqual(System(1, [("abcdwxyz", 0, [])]).names, ["abcdwxyz"])
        self.assertEqual(error_of(System, 1, [("", 0, [])]), ("InvalidSystem", 0))
        self.assertEqual(error_of(System, 1, [("abcdefghi", 0, [])]), ("InvalidSystem", 0))
        self.assertEqual(error_of(System, 1, [("a", 0, [("abcdefghi", (1,), 1)])]), ("InvalidSystem", 0))
        eight = System(1, [("abcdwxyz", 0, [("abcdwxyz", (1,), 1)])])
        self.assertEqual(eight.reads("abcdwxyz"), [("abcdwxyz", (1,), 1)])

    def test_letters_of_names(self):
        for letter in LETTERS:
            self.assertEqual(System(1, [(letter, 0, []), ("zz", 0, [])]).names, [letter, "zz"])
        for at in range(32, 127):
            if chr(at) not in LETTERS:
                with self.subTest(sign=chr(at)):
                    self.assertEqual(error_of(System, 1, [("a" + chr(at), 0, [])]), ("InvalidSystem", 0))
        self.assertEqual(error_of(System, 1, [("\u00e4", 0, [])]), ("InvalidSystem", 0))

    def test_modulus(self):
        for wrong in (1, 0, -5):
            self.assertEqual(error_of(System, 1, [ROW], wrong), ("InvalidNumber", wrong))
        self.assertEqual(System(1, [ROW], 2).modulus, 2)
        self.assertEqual(System(1, [ROW], 2 * 10 ** 6).modulus, 2 * 10 ** 6)

    def test_numbers_that_the_check_does_not_limit(self):
        system = System(1, [("a", -10 ** 40, [("a", (-10 ** 40,), 10 ** 40)])], 10 ** 40)
        self.assertEqual(system.reads("a"), [("a", (-10 ** 40,), 10 ** 40)])
        self.assertEqual([system.constant("a"), system.modulus], [-10 ** 40, 10 ** 40])


class FaultsTest(unittest.TestCase):
    def test_each_fault_alone(self):
        for wrong in bad_tables():
            with self.subTest(wrong=wrong):
                self.assertEqual(error_of(System, 1, [ROW, wrong]), ("InvalidSystem", 1))
                self.assertEqual(error_of(System, 1, [ROW, ("c", 0, []), wrong]), ("InvalidSystem", 2))

    def test_read_of_no_table_alone(self):
        lost = ("b", 0, [("a", (1,), 1), ("c", (1,), 1)])
        self.assertEqual(error_of(System, 1, [ROW, lost]), ("InvalidSystem", 1))
        self.assertEqual(error_of(System, 1, [lost, ROW]), ("InvalidSystem", 0))
        self.assertEqual(error_of(System, 1, [lost, ROW, ("c", 0, [])]), None)

    def test_the_number_is_that_of_the_passed_list(self):
        rows = [("z", 0, []), ("m", 0, [("q", (1,), 1)]), ("a", 0, [])]
        self.assertEqual(error_of(System, 1, rows), ("InvalidSystem", 1))

    def test_an_earlier_name_is_the_fault_of_the_later_table(self):
        rows = [("a", 0, []), ("b", 0, []), ("b", 1, []), ("a", 2, [])]
        self.assertEqual(error_of(System, 1, rows), ("InvalidSystem", 2))

    def test_the_first_of_two_wrong_tables(self):
        lone = [wrong for wrong in bad_tables() if wrong[0] != "a"]
        for first in lone:
            for second in lone:
                with self.subTest(first=first, second=second):
                    self.assertEqual(error_of(System, 1, [ROW, first, second]), ("InvalidSystem", 1))


class OrderTest(unittest.TestCase):
    def test_dimensions_before_all(self):
        self.assertEqual(error_of(System, 0, [], 1), ("InvalidNumber", 0))
        self.assertEqual(error_of(System, 4, many_tables(7), 0), ("InvalidNumber", 4))
        self.assertEqual(error_of(System, 4, [("A", 0, [("c", (), 0)])], 0), ("InvalidNumber", 4))

    def test_number_of_tables_before_tables(self):
        rows = many_tables(6) + [("A", 0, [("q", (), 0)])]
        self.assertEqual(error_of(System, 1, [("A", 0, [])] + rows, 1), ("InvalidSystem", -1))
        self.assertEqual(error_of(System, 1, [], 1), ("InvalidSystem", -1))

    def test_tables_before_modulus(self):
        for wrong in bad_tables():
            self.assertEqual(error_of(System, 1, [ROW, wrong], 1), ("InvalidSystem", 1))

    def test_a_later_wrong_table_before_an_earlier_one_that_reads_no_table(self):
        lost = ("c", 0, [("q", (1,), 1)])
        for wrong in bad_tables():
            with self.subTest(wrong=wrong):
                self.assertEqual(error_of(System, 1, [ROW, lost, wrong], 0), ("InvalidSystem", 2))

    def test_a_read_of_no_table_before_the_modulus(self):
        lost = ("c", 0, [("q", (1,), 1)])
        self.assertEqual(error_of(System, 1, [ROW, lost, ("b", 0, [("p", (1,), 1)])], 0), ("InvalidSystem", 1))

    def test_a_later_wrong_read_before_an_earlier_read_of_no_table(self):
        rows = [("a", 0, [("q", (1,), 1), ("a", (1,), 1)]), ("b", 0, [("a", (1,), 0)])]
        self.assertEqual(error_of(System, 1, rows), ("InvalidSystem", 1))
        self.assertEqual(error_of(System, 1, rows[:1]), ("InvalidSystem", 0))

    def test_too_many_reads_only_from_the_table_on_that_brings_them(self):
        rows = [("a", 0, [self_read("a")] * 12), ("b", 0, []), ("c", 0, [self_read("q")]), ("D", 0, [])]
        self.assertEqual(error_of(System, 1, rows, 1), ("InvalidSystem", 2))


if __name__ == "__main__":
    unittest.main()
