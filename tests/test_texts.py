"""[4] as texts: show_system and show_cell, read_system and read_cell."""

import random
import unittest

import reckoned
from samples import LETTERS, both, error_of, grow, nest, pair, random_system, trio

from farreads.readings import read_cell, read_system
from farreads.systems import System
from farreads.texts import show_cell, show_system

PAIR = "2 mod 97: a = 0 + a[1 -1] + b[0 0]; b = 1 + b[-1 1] + a[0 1]"
TRIO = "1 mod 1000003: a = 5 + 2 b[1] - 3 a[2] + 4 c[0] + 2 b[1]; b = -7 + a[3]; c = 0 + 9 c[-1] - 9 a[5]"
FAR = 10 ** 39
SIGNS = " 0123456789abz-+=[];:.md_"


def random_name(chance):
    return "".join(chance.choice(LETTERS) for _ in range(chance.choice([1, 1, 2, 7, 8])))


def systems(seed, many):
    """Systems by chance, of all sizes, with names of all lengths."""
    chance = random.Random(seed)
    for number in range(many):
        system = random_system(chance, 1 + number % 3, 6, 12, 5)
        names = {}
        while len(set(names.values())) < len(system):
            names = {name: random_name(chance) for name in system.names}
        system = system.renamed(names)
        rows = []
        for name in system.names:
            reads = [(to, step, chance.choice([1, -1, 2, -2, 9, -9, factor])) for to, step, factor in system.reads(name)]
            rows.append((name, chance.choice([0, 1, -1, 99, -99, system.constant(name)]), reads))
        yield System(system.dimensions, rows, chance.choice([2, 3, 9, 10, 100, 2 * 10 ** 6, system.modulus]))


def cells(seed, many):
    chance = random.Random(seed)
    for _ in range(many):
        top = chance.choice([1, 9, 10, 100, 2 * 10 ** 30])
        point = tuple(chance.choice([0, top, chance.randint(0, top)]) for _ in range(chance.randint(1, 3)))
        yield random_name(chance), point


def bent(chance, text):
    """A text that is a little other than another one."""
    at = chance.randrange(len(text) + 1)
    kind = chance.randrange(6)
    if kind == 0:
        return text[:at] + chance.choice(SIGNS) + text[at:]
    if kind == 1:
        return text[:at] + text[at + 1:]
    if kind == 2:
        return text[:at] + chance.choice(SIGNS) + text[at + 1:]
    if kind == 3:
        return text[:at] + text[at:at + 1] + text[at:]
    words = text.split(" ")
    one, other = chance.randrange(len(words)), chance.randrange(len(words))
    if kind == 4:
        words[one], words[other] = words[other], words[one]
    else:
        words[one] = words[other]
    return " ".join(words)


class ShowSystemTest(unittest.TestCase):
    def test_known(self):
        self.assertEqual(show_system(pair()), PAIR)
        self.assertEqual(show_system(trio()), TRIO)
        self.assertEqual(show_system(System(3, [("z", 0, [])])), "3 mod 1000003: z = 0")
        self.assertEqual(show_system(System(1, [("b", 9, []), ("a", -99, [])], 2)), "1 mod 2: a = -99; b = 9")

    def test_factors(self):
        for factor, part in ((1, "+ a[2]"), (-1, "- a[2]"), (2, "+ 2 a[2]"), (-2, "- 2 a[2]"), (9, "+ 9 a[2]"), (-9, "- 9 a[2]")):
            self.assertEqual(show_system(System(1, [("a", 7, [("a", (2,), factor)])], 5)), "1 mod 5: a = 7 " + part)

    def test_great_integers(self):
        system = System(1, [("a", -10 ** 50, [("a", (-10 ** 50,), 10 ** 50)])], 10 ** 50)
        zeros = "0" * 50
        self.assertEqual(show_system(system), f"1 mod 1{zeros}: a = -1{zeros} + 1{zeros} a[-1{zeros}]")

    def test_by_chance(self):
        for system in systems(200, 300):
            self.assertEqual(show_system(system), reckoned.system_text(system))


class ReadSystemTest(unittest.TestCase):
    def test_known(self):
        self.assertTrue(read_system(PAIR) == pair())
        self.assertTrue(read_system(TRIO) == trio())
        self.assertTrue(read_system("3 mod 2: z = -1") == System(3, [("z", -1, [])], 2))

    def test_both_ways(self):
        for system in [pair(), both(), grow(), nest(), trio()] + list(systems(201, 300)):
            self.assertTrue(read_system(show_system(system)) == system)
            self.assertEqual(show_system(read_system(reckoned.system_text(system))), reckoned.system_text(system))

    def test_six_tables_and_twelve_reads(self):
        rows = [(name, 0, [("f", (0, 0, 0), 1), ("a", (5, -5, 5), -1)]) for name in "abcdef"]
        system = System(3, rows)
        self.assertTrue(read_system(show_system(system)) == system)

    def test_integers_of_forty_digits(self):
        system = System(1, [("a", -FAR, [("a", (FAR,), FAR), ("a", (-FAR,), 1 - 10 * FAR)])], 10 * FAR - 1)
        self.assertTrue(read_system(show_system(system)) == system)

    def test_long_texts(self):
        reads = [("abcdefgh", (10 * FAR - 1, 1 - 10 * FAR, -FAR), 10 * FAR - 1)] * 11
        system = System(3, [("abcdefgh", -FAR, reads), ("b", 99, [])], 10 * FAR - 1)
        text = show_system(system)
        self.assertGreater(len(text), 1900)
        self.assertTrue(read_system(text) == system)
        self.assertEqual(error_of(read_system, text + " "), ("Unreadable", text + " "))

    def test_a_system_that_is_read_is_like_any_other(self):
        system = read_system(PAIR)
        self.assertEqual([system.dimensions, system.modulus, system.names], [2, 97, ["a", "b"]])
        self.assertEqual(system.reads("b"), [("b", (-1, 1), 1), ("a", (0, 1), 1)])
        self.assertEqual([type(read[1]) for read in system.reads("b")], [tuple, tuple])
        self.assertEqual([type(system.constant("a")), type(system.dimensions), type(system.modulus)], [int] * 3)


class UnreadableSystemTest(unittest.TestCase):
    def check(self, *texts):
        for text in texts:
            with self.subTest(text=text):
                self.assertFalse(reckoned.writes_system(text))
                self.assertEqual(error_of(read_system, text), ("Unreadable", text))

    def check_changes(self, text, *changes):
        self.assertIsNone(error_of(read_system, text))
        for old, new in changes:
            self.assertIn(old, text)
            self.check(text.replace(old, new, 1))

    def test_spaces(self):
        for text in (PAIR, TRIO):
            for at, sign in enumerate(text):
                self.check(text[:at] + "  " + text[at:])
                if sign == " ":
                    self.check(text[:at] + text[at + 1:], text[:at] + "  " + text[at + 1:])
                else:
                    self.check(text[:at + 1] + "\n" + text[at + 1:])
            self.check(" " + text, text + " ", "  " + text)

    def test_a_space_at_any_place(self):
        for at in range(len(PAIR) + 1):
            self.check(PAIR[:at] + " " + PAIR[at:])

    def test_a_sign_less_or_more(self):
        for at in range(len(PAIR)):
            text = PAIR[:at] + PAIR[at + 1:]
            if reckoned.writes_system(text):
                self.assertEqual(show_system(read_system(text)), text)
            else:
                self.check(text)
            for sign in "+[];:=,.%!A^~":
                self.check(PAIR[:at] + sign + PAIR[at:])

    def test_empty_and_cut_off(self):
        self.check("", " ", ":", "2", "2 mod 97", "2 mod 97:", "2 mod 97: ", "2 mod 97: a", "2 mod 97: a =", "2 mod 97: a = ")
        self.check("mod 97: a = 0", "2 97: a = 0", "2 mod : a = 0", " mod 97: a = 0", "2 mod 97: = 0", "2 mod 97:  = 0")
        self.check("2 mod 97: a = 0;", "2 mod 97: a = 0; ", "2 mod 97: ; a = 0", "2 mod 97: a = 0 +", "2 mod 97: a = 0 + ")
        self.check("2 mod 97: a = 0 + a", "2 mod 97: a = 0 + a[", "2 mod 97: a = 0 + a[]", "2 mod 97: a = 0 + a[0 0")
        self.check("2 mod 97: a = 0 a[0 0]", "2 mod 97: a = + a[0 0]", "2 mod 97: a = 0 + [0 0]", "2 mod 97: a = 0 + 3")
        self.check("2 mod 97: a = 0 + a[0 0]]", "2 mod 97: a = 0 + a[[0 0]", "2 mod 97: a = 0 + a[0 0] 3", "a[3 4]")
        self.check("2 mod 97: a = 0: b = 0", "2 mod 97; a = 0", "2 mod 97: a = 0, b = 0", "2 MOD 97: a = 0", "2 mod 97 : a = 0")
        self.check("2 mod 97: a = 0 + 3 a a[0 0]", "2 mod 97: a = 0 + 3 4 a[0 0]", "2 mod 97: a = 0 * a[0 0]")
        self.check("2 mod 97: a = 0 + + a[0 0]", "2 mod 97: a = 0 - - a[0 0]", "2 mod 97: a = 0 + -a[0 0]", "2 mod 97: a = b")

    def test_integers(self):
        text = "2 mod 97: a = 5 + 3 a[1 -4]"
        self.check_changes(
            text,
            *[("2 mod", each + " mod") for each in ("02", "+2", "-2", "--2", "2.0", "2_0", "two", "0", "4", "10", "-1")],
            *[("97", each) for each in ("097", "+97", "-97", "1", "0", "-0", "00", "9 7", "0x61", "1e3", "9_7")],
            *[("= 5", "= " + each) for each in ("05", "+5", "-0", "00", "-05", "--5", "5.", "- 5", "5 5", "1_0", "-")],
            *[("+ 3", "+ " + each) for each in ("03", "+3", "-3", "0", "-0", "1", "-1", "01", "3.5", "3 3")],
            *[("[1 ", "[" + each + " ") for each in ("01", "+1", "-0", "00", "-01", "--1", "1,", "1_0", "-")],
            *[("-4]", each + "]") for each in ("04", "+4", "-0", "-04", "- 4", "--4", "4-", "")],
        )

    def test_integers_of_more_than_forty_digits(self):
        text = "2 mod 97: a = 5 + 3 a[1 -4]"
        for old in ("97", "5", "3", "1", "4"):
            forty, more = "7" * 40, "7" * 41
            self.assertEqual(show_system(read_system(text.replace(old, forty))), text.replace(old, forty))
            self.check(text.replace(old, more), text.replace(old, "1" + "0" * 40), text.replace(old, "0" + forty))
        self.assertEqual(read_system("1 mod 2: a = -" + "9" * 40).constant("a"), 1 - 10 ** 40)
        self.check("1 mod 2: a = -" + "9" * 41, "1 mod 2: a = " + "9" * 1900, "1" * 41 + " mod 2: a = 0")

    def test_names(self):
        for name in ("abcdefgh", "z", "mod"):
            text = f"2 mod 97: {name} = 0 + 2 {name}[0 0]"
            self.assertEqual(show_system(read_system(text)), text)
        for name in ("abcdefghi", "A", "aB", "a1", "1", "a_b", "a-b", "a.b", "a'", "-", "+", "a b", "a+", "`", "{"):
            self.check(f"2 mod 97: {name} = 0", f"2 mod 97: {name} = 0 + {name}[0 0]", f"2 mod 97: a = 0 + {name}[0 0]")

    def test_tables(self):
        self.check("2 mod 97: b = 0; a = 0", "2 mod 97: a = 0; a = 0", "2 mod 97: a = 0; a = 1", "2 mod 97: b = 0; aa = 0")
        self.check("1 mod 9: a = 0; c = 0; b = 0", "1 mod 9: a = 0; b = 0; b = 0", "1 mod 9: b = 0 + a[1]")
        self.check("1 mod 9: a = 0 + b[1]", "1 mod 9: a = 0 + b[1]; c = 0 + a[1]", "1 mod 9: a = 0; b = 0 + a[1] + aa[1]")

    def test_numbers_of_tables_and_reads(self):
        for letters in ("abcdef", "uvwxyz"):
            text = "1 mod 9: " + "; ".join(f"{name} = 0" for name in letters)
            self.assertEqual(len(read_system(text)), 6)
        self.check("1 mod 9: " + "; ".join(f"{name} = 0" for name in "abcdefg"))
        for many in (0, 1, 11, 12):
            text = "1 mod 9: a = 0" + " + a[1]" * many
            self.assertEqual(len(read_system(text).all_reads()), many)
            self.assertEqual(len(read_system(text + "; b = 1").all_reads()), many)
        self.check("1 mod 9: a = 0" + " + a[1]" * 13, "1 mod 9: a = 0" + " + a[1]" * 6 + "; b = 0" + " - 2 a[1]" * 7)

    def test_dimensions(self):
        self.check("0 mod 9: a = 0", "4 mod 9: a = 0", "4 mod 9: a = 0 + a[0 0 0 0]", "0 mod 9: a = 0 + a[]", "-1 mod 9: a = 0")
        for dimensions in (1, 2, 3):
            for many in (1, 2, 3, 4):
                text = f"{dimensions} mod 9: a = 0 + a[{' '.join(['1'] * many)}]"
                if many == dimensions:
                    self.assertEqual(read_system(text).reads("a"), [("a", (1,) * many, 1)])
                else:
                    self.check(text, text.replace("= 0", "= 0 - a[" + " ".join(["1"] * dimensions) + "]"))

    def test_moduli(self):
        for modulus in (2, 3, 10, 2 * 10 ** 6, 10 ** 40 - 1):
            self.assertEqual(read_system(f"1 mod {modulus}: a = 0").modulus, modulus)
        for modulus in (1, 0, -1, -2, -97, 10 ** 40):
            self.check(f"1 mod {modulus}: a = 0")

    def test_long_texts_that_are_none(self):
        for sign in (" ", "a", "0", ";", ": ", "; ", "[", "]", "a[", "a[0] ", "+ a[0] ", "1 mod 9: a = 0 "):
            text = (sign * 2000)[:2000]
            self.check(text, "1 mod 9: a = 0 " + text[:1980], "1 mod 9: " + text[:1980])

    def test_letters_and_digits_beyond_the_plain_ones(self):
        self.check("1 mod \u0662: a = 0", "1 mod 9: \u00e4 = 0", "1 mod 9: a = \u00b2", "1\u00a0mod 9: a = 0", "1 mod 9:\ta = 0")

    def test_bent_texts(self):
        chance, seen = random.Random(202), []
        for system in systems(203, 400):
            for _ in range(12):
                text = bent(chance, reckoned.system_text(system))
                seen.append(reckoned.writes_system(text))
                if seen[-1]:
                    self.assertEqual(show_system(read_system(text)), text)
                else:
                    self.assertEqual(error_of(read_system, text), ("Unreadable", text))
        self.assertGreater(min(seen.count(True), seen.count(False)), 500)


class CellsTest(unittest.TestCase):
    def test_show_known(self):
        for cell, text in (
            (("a", (3, 4)), "a[3 4]"),
            (("abcdefgh", (0,)), "abcdefgh[0]"),
            (("z", (0, 10, 2 * 10 ** 30)), "z[0 10 2" + "0" * 30 + "]"),
        ):
            self.assertEqual(show_cell(cell), text)
            self.assertEqual(read_cell(text), cell)

    def test_both_ways(self):
        for cell in cells(204, 500):
            self.assertEqual(show_cell(cell), reckoned.cell_text(cell))
            self.assertEqual(read_cell(show_cell(cell)), cell)
            self.assertEqual(show_cell(read_cell(reckoned.cell_text(cell))), reckoned.cell_text(cell))

    def test_kinds(self):
        cell = read_cell("a[3 4]")
        self.assertEqual([type(cell), type(cell[0]), type(cell[1]), type(cell[1][0])], [tuple, str, tuple, int])

    def check(self, *texts):
        for text in texts:
            with self.subTest(text=text):
                self.assertFalse(reckoned.writes_cell(text))
                self.assertEqual(error_of(read_cell, text), ("Unreadable", text))

    def test_none(self):
        self.check("", " ", "a", "[]", "[3]", "a[]", "a[ ]", "a[3", "a3]", "a 3]", "3]", "]", "[", "a[3]]", "a[[3]", "a[3] ", " a[3]")
        self.check("a[3  4]", "a[ 3]", "a[3 ]", "a [3]", "a[3 4 5 6]", "a[3,4]", "a[3, 4]", "a(3)", "a[3]b", "a[3][4]", "a[3]a[3]")
        self.check("a[03]", "a[+3]", "a[-3]", "a[-0]", "a[00]", "a[3 -4]", "a[3 04]", "a[3 4 -5]", "a[3.0]", "a[3_0]", "a[b]", "a[3 b]")
        self.check("A[3]", "abcdefghi[3]", "a1[3]", "a_[3]", "a b[3]", "-a[3]", "2 a[3]", "+ a[3]", "a[3]; b[3]", "a[3]\n", "a[3)")
        self.check("a[\u0663]", "\u00e4[3]", "a[\u00b3]", "{[3]", "`[3]")

    def test_lengths(self):
        for many in (1, 39, 40):
            self.assertEqual(read_cell("a[" + "9" * many + "]"), ("a", (10 ** many - 1,)))
            self.assertEqual(read_cell("a[0 " + "9" * many + " 1]"), ("a", (0, 10 ** many - 1, 1)))
        for many in (41, 42, 1900):
            self.check("a[" + "9" * many + "]", "a[1 " + "9" * many + "]", "a[" + "0" * many + "]")

    def test_a_sign_less_or_more(self):
        for text in ("ab[30 4]", "abcdefgh[0]", "z[1 20 3]"):
            for at in range(len(text) + 1):
                for new in [text[:at] + sign + text[at:] for sign in SIGNS] + [text[:at] + text[at + 1:]]:
                    if reckoned.writes_cell(new):
                        self.assertEqual(show_cell(read_cell(new)), new)
                    else:
                        self.check(new)

    def test_bent_texts(self):
        chance, seen = random.Random(205), []
        for cell in cells(206, 3000):
            text = bent(chance, reckoned.cell_text(cell))
            seen.append(reckoned.writes_cell(text))
            if seen[-1]:
                self.assertEqual(show_cell(read_cell(text)), text)
            else:
                self.assertEqual(error_of(read_cell, text), ("Unreadable", text))
        self.assertGreater(min(seen.count(True), seen.count(False)), 500)


if __name__ == "__main__":
    unittest.main()
