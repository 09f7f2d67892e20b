"""Sheets: systems that change, call by call, beside a reckoning of the tests' own."""

import copy
import random
import unittest

import reckoned
from samples import both, error_of, grow, pair, random_system, single

from farreads.levels import count_levels
from farreads.ready import least_unready
from farreads.sheets import Sheet
from farreads.systems import System
from farreads.texts import show_system

FAR = 10 ** 40


class Model:
    """What a sheet is to have: rows of tables, and those from before each call that can be taken back."""

    def __init__(self, system):
        self.frame = (system.dimensions, system.modulus)
        self.rows = {name: [system.constant(name), system.reads(name)] for name in system.names}
        self.former = []

    def system(self):
        rows = [(name, constant, reads) for name, (constant, reads) in self.rows.items()]
        return System(self.frame[0], rows, self.frame[1])

    def levels(self):
        return reckoned.least_levels(self.system())

    def many(self):
        return sum(len(reads) for _, reads in self.rows.values())

    def wrong_read(self, read):
        table, vector, factor = read
        return table not in self.rows or len(vector) != self.frame[0] or factor == 0 or self.many() == 12

    def call(self, kind, given):
        """What a call is to return, or the error as `error_of` tells it, as a tuple of both."""
        name = given[0] if given else None
        if kind == "undo":
            if not self.former:
                return None, ("NothingToUndo", 0)
            self.rows = self.former.pop()
            return None, None
        if kind == "drop":
            if name not in self.rows or given[1] not in range(len(self.rows[name][1])):
                return None, ("InvalidRead", tuple(given))
        elif name not in self.rows:
            return None, ("UnknownTable", name)
        elif kind == "add" and self.wrong_read(given[1]):
            return None, ("InvalidRead", given[1])
        before = self.levels()
        self.former.append(copy.deepcopy(self.rows))
        if kind == "add":
            self.rows[name][1].append(given[1])
        elif kind == "drop":
            del self.rows[name][1][given[1]]
        else:
            self.rows[name][0] = given[1]
        return (before, self.levels()), None


def random_call(chance, system):
    """A call by chance, as a tuple of the method's name and a list of arguments."""
    names = system.names + ["q"] * (chance.random() < 0.1)
    name = chance.choice(names)
    kind = chance.choice(["add", "add", "add", "drop", "drop", "put", "undo", "undo"])
    if kind == "add":
        vector = tuple(chance.randint(-2, 2) for _ in range(system.dimensions + (chance.random() < 0.05)))
        return kind, [name, (chance.choice(names), vector, chance.choice([-9, -1, 1, 2, chance.randint(-1, 1)]))]
    if kind == "drop":
        many = len(system.reads(name)) if name in system.names else 0
        return kind, [name, chance.choice([many, -1] + list(range(many)) * 4)]
    return kind, [name, chance.randint(-99, 99)] if kind == "put" else []


def returned(call, *given):
    """What a call returns, or None if it raises an error, and the error."""
    kept = []
    error = error_of(lambda: kept.append(call(*given)))
    return (kept[0] if kept else None), error


def systems(seed, many):
    chance = random.Random(seed)
    for number in range(many):
        if number % 2:
            yield random_system(chance, 1, 6, 12, 5, 1)
        else:
            yield random_system(chance, 2, 3, chance.choice([3, 12]), 2, chance.choice([0, 1]))


class SystemTest(unittest.TestCase):
    def test_the_present_system(self):
        for system in (pair(), both(), grow()):
            self.assertTrue(Sheet(system).system == system)
            self.assertIsInstance(Sheet(system).system, System)
        sheet = Sheet(pair())
        sheet.put("a", 5)
        self.assertEqual(show_system(sheet.system), "2 mod 97: a = 5 + a[1 -1] + b[0 0]; b = 1 + b[-1 1] + a[0 1]")

    def test_it_is_only_read(self):
        with self.assertRaises(AttributeError):
            Sheet(pair()).system = both()

    def test_by_name(self):
        self.assertTrue(Sheet(system=pair()) == Sheet(pair()))

    def test_lists_changed_by_the_caller(self):
        sheet = Sheet(pair())
        for _ in range(2):
            sheet.system.reads("a").clear()
            sheet.system.names.append("c")
            sheet.system.all_reads().pop()
            self.assertTrue(sheet.system == pair())
            self.assertEqual(sheet.put("a", 0), (2, 2))

    def test_the_system_handed_in_does_not_change(self):
        system = pair()
        sheet = Sheet(system)
        sheet.add("a", ("b", (1, 1), 3))
        sheet.drop("b", 0)
        sheet.put("b", 9)
        self.assertTrue(system == pair())
        self.assertIsNot(Sheet(system).system, system)

    def test_a_system_from_a_sheet_does_not_change(self):
        sheet = Sheet(pair())
        before = sheet.system
        sheet.drop("a", 0)
        after = sheet.system
        sheet.undo()
        self.assertTrue(before == pair())
        self.assertTrue(after == pair().without([("a", 0)]))

    def test_two_sheets_of_a_system(self):
        system = pair()
        one, other = Sheet(system), Sheet(system)
        one.put("a", 7)
        one.add("a", ("a", (1, 1), 1))
        self.assertTrue(other.system == system)
        self.assertEqual(error_of(other.undo), ("NothingToUndo", 0))
        other.drop("b", 1)
        one.undo()
        self.assertEqual([one.system.constant("a"), other.system.constant("a")], [7, 0])
        self.assertEqual([len(one.system.reads("b")), len(other.system.reads("b"))], [2, 1])

    def test_a_sheet_of_the_system_of_a_sheet(self):
        one = Sheet(pair())
        other = Sheet(one.system)
        other.put("a", 7)
        self.assertTrue(one.system == pair())


class EqualityTest(unittest.TestCase):
    def check(self, one, other, equal):
        self.assertIs(one == other, equal)
        self.assertIs(other == one, equal)
        self.assertIs(one != other, not equal)

    def test_sheets(self):
        self.check(Sheet(pair()), Sheet(pair()), True)
        self.check(Sheet(pair()), Sheet(both()), False)
        self.check(Sheet(pair()), Sheet(pair(98)), False)
        sheet = Sheet(pair())
        self.check(sheet, sheet, True)

    def test_what_can_be_taken_back_does_not_matter(self):
        sheet = Sheet(pair())
        sheet.put("a", 5)
        self.check(sheet, Sheet(pair()), False)
        sheet.put("a", 0)
        self.check(sheet, Sheet(pair()), True)
        sheet.undo()
        sheet.undo()
        self.check(sheet, Sheet(pair()), True)

    def test_the_order_of_reads_matters(self):
        one, other = Sheet(single((1, 1))), Sheet(single((2, 2)))
        one.add("a", ("a", (2, 2), 1))
        other.add("a", ("a", (1, 1), 1))
        self.check(one, other, False)
        one.drop("a", 0)
        other.drop("a", 1)
        self.check(one, other, True)

    def test_other_things(self):
        for thing in (pair(), pair().names, None, 0, "", show_system(pair()), [Sheet(pair())], (Sheet(pair()),), Sheet, {}):
            self.check(Sheet(pair()), thing, False)


class CallsTest(unittest.TestCase):
    def test_add(self):
        sheet = Sheet(System(2, [("a", 1, [("a", (1, -1), 1)]), ("b", 2, [])], 97))
        self.assertEqual(sheet.add("a", ("b", (0, 0), -3)), (1, 1))
        self.assertEqual(sheet.system.reads("a"), [("a", (1, -1), 1), ("b", (0, 0), -3)])
        self.assertEqual(sheet.add("b", ("b", (-1, 1), 2)), (1, 2))
        self.assertEqual(sheet.add("b", ("b", (1, -1), 2)), (2, None))
        self.assertEqual(sheet.add("a", ("b", (5, 5), 2)), (None, None))
        self.assertEqual(sheet.system.reads("b"), [("b", (-1, 1), 2), ("b", (1, -1), 2)])
        self.assertEqual([sheet.system.constant("a"), sheet.system.constant("b"), sheet.system.modulus], [1, 2, 97])

    def test_drop(self):
        sheet = Sheet(pair())
        self.assertEqual(sheet.drop("a", 1), (2, 2))
        self.assertEqual(sheet.system.reads("a"), [("a", (1, -1), 1)])
        self.assertEqual(sheet.drop("b", 0), (2, 1))
        self.assertEqual(sheet.system.reads("b"), [("a", (0, 1), 1)])
        self.assertEqual(sheet.drop("b", 0), (1, 1))
        self.assertEqual(sheet.drop("a", 0), (1, 0))
        self.assertEqual(sheet.system.all_reads(), [])

    def test_drop_moves_the_numbers_behind(self):
        sheet = Sheet(single((1,), (2,), (3,)))
        sheet.drop("a", 1)
        self.assertEqual(sheet.system.reads("a"), [("a", (1,), 1), ("a", (3,), 1)])
        sheet.drop("a", 1)
        self.assertEqual(sheet.system.reads("a"), [("a", (1,), 1)])

    def test_put(self):
        sheet = Sheet(pair())
        for constant in (5, -99, 0, FAR):
            self.assertEqual(sheet.put("b", constant), (2, 2))
            self.assertEqual([sheet.system.constant("a"), sheet.system.constant("b")], [0, constant])
            self.assertEqual(sheet.system.reads("b"), pair().reads("b"))
        self.assertEqual(Sheet(both()).put("a", 3), (None, None))
        self.assertEqual(Sheet(System(3, [("a", 0, [])])).put("a", 3), (0, 0))

    def test_by_name(self):
        sheet = Sheet(pair())
        self.assertEqual(sheet.add(name="a", read=("b", (1, 1), 1)), (2, 2))
        self.assertEqual(sheet.add(read=("b", (2, 2), 1), name="a"), (2, 2))
        self.assertEqual(sheet.drop(name="a", number=2), (2, 2))
        self.assertEqual(sheet.drop(number=2, name="a"), (2, 2))
        self.assertEqual(sheet.put(name="a", constant=4), (2, 2))
        self.assertEqual(sheet.put(constant=5, name="a"), (2, 2))
        self.assertEqual(sheet.system.constant("a"), 5)
        self.assertEqual(sheet.system.reads("a"), pair().reads("a"))

    def test_kinds(self):
        sheet = Sheet(pair())
        for found in (sheet.add("a", ("b", (1, 1), 1)), sheet.drop("a", 2), sheet.put("a", 0)):
            self.assertEqual([type(found), len(found), {type(many) for many in found}], [tuple, 2, {int}])

    def test_greatest_numbers(self):
        sheet = Sheet(System(1, [(name, 0, [("a", (1,), 1)] * 2) for name in "abcdef"]).without([("f", 1)]))
        self.assertEqual(sheet.add("a", ("f", (5,), -9)), (1, 1))
        self.assertEqual(len(sheet.system.all_reads()), 12)

    def test_systems_that_are_a_little_too_great(self):
        system = System(1, [(name, 0, [("a", (1,), 1)] * 2) for name in "abcdef"])
        great = system.beside(System(1, [("x", 0, [("x", (1,), 1)])]))
        sheet = Sheet(great)
        self.assertEqual(sheet.put("x", 3), (1, 1))
        self.assertEqual(error_of(sheet.add, "x", ("x", (1,), 1)), ("InvalidRead", ("x", (1,), 1)))
        self.assertEqual(sheet.drop("x", 0), (1, 1))
        self.assertEqual(error_of(sheet.add, "x", ("x", (1,), 1)), ("InvalidRead", ("x", (1,), 1)))
        self.assertEqual(sheet.drop("a", 0), (1, 1))
        self.assertEqual(sheet.add("x", ("x", (1,), 1)), (1, 1))


class UndoTest(unittest.TestCase):
    def test_none(self):
        self.assertEqual(error_of(Sheet(pair()).undo), ("NothingToUndo", 0))
        self.assertEqual(error_of(Sheet.of_text("1 mod 2: a = 0").undo), ("NothingToUndo", 0))

    def test_one_after_the_other(self):
        sheet, shown = Sheet(pair()), [show_system(pair())]
        for call, given in (
            (sheet.add, ("a", ("a", (2, 2), 5))),
            (sheet.put, ("b", 44)),
            (sheet.drop, ("a", 0)),
            (sheet.put, ("b", 44)),
            (sheet.drop, ("b", 1)),
        ):
            call(*given)
            shown.append(show_system(sheet.system))
        while shown:
            self.assertEqual(show_system(sheet.system), shown.pop())
            if shown:
                self.assertIsNone(sheet.undo())
        for _ in range(3):
            self.assertEqual(error_of(sheet.undo), ("NothingToUndo", 0))
        self.assertTrue(sheet.system == pair())

    def test_a_call_that_changes_nothing_is_taken_back_as_well(self):
        sheet = Sheet(pair())
        sheet.put("a", 5)
        sheet.put("a", 5)
        self.assertIsNone(sheet.undo())
        self.assertEqual(sheet.system.constant("a"), 5)
        self.assertIsNone(sheet.undo())
        self.assertEqual(sheet.system.constant("a"), 0)

    def test_undo_is_not_taken_back(self):
        sheet = Sheet(pair())
        sheet.put("a", 1)
        sheet.put("a", 2)
        sheet.undo()
        sheet.put("a", 3)
        sheet.undo()
        self.assertEqual(sheet.system.constant("a"), 1)
        sheet.undo()
        self.assertEqual(sheet.system.constant("a"), 0)
        self.assertEqual(error_of(sheet.undo), ("NothingToUndo", 0))

    def test_calls_that_raise_are_not_taken_back(self):
        sheet = Sheet(pair())
        sheet.put("a", 5)
        for call, given in (
            (sheet.add, ("c", ("a", (0, 0), 1))),
            (sheet.add, ("a", ("a", (0,), 1))),
            (sheet.drop, ("a", 2)),
            (sheet.put, ("c", 1)),
        ):
            self.assertIsNotNone(error_of(call, *given))
            self.assertEqual(sheet.system.constant("a"), 5)
        sheet.undo()
        self.assertTrue(sheet.system == pair())
        self.assertEqual(error_of(sheet.undo), ("NothingToUndo", 0))

    def test_reads_and_runs_are_not_taken_back(self):
        sheet = Sheet(both())
        sheet.put("a", 5)
        list(sheet.unready())
        sheet.system.without([("a", 0)])
        self.assertIs(sheet == Sheet(pair()), False)
        sheet.undo()
        self.assertTrue(sheet.system == both())


class ErrorsTest(unittest.TestCase):
    def check(self, system, kind, given, wanted):
        sheet = Sheet(system)
        self.assertEqual(error_of(getattr(sheet, kind), *given), wanted)
        self.assertTrue(sheet.system == system)
        self.assertEqual(error_of(sheet.undo), ("NothingToUndo", 0))

    def test_unknown_tables(self):
        for name in ("c", "", "A", "aa"):
            self.check(pair(), "add", (name, ("a", (0, 0), 1)), ("UnknownTable", name))
            self.check(pair(), "put", (name, 3), ("UnknownTable", name))
            self.check(pair(), "drop", (name, 0), ("InvalidRead", (name, 0)))

    def test_reads_that_are_added(self):
        for read in (
            ("c", (0, 0), 1),
            ("", (0, 0), 1),
            ("A", (0, 0), 1),
            ("a", (), 1),
            ("a", (0,), 1),
            ("a", (0, 0, 0), 1),
            ("b", (0, 0), 0),
            ("c", (0,), 0),
        ):
            self.check(pair(), "add", ("a", read), ("InvalidRead", read))
            self.check(pair(), "add", ("b", read), ("InvalidRead", read))

    def test_an_unknown_table_before_a_wrong_read(self):
        for read in (("c", (0, 0), 1), ("a", (0,), 1), ("a", (0, 0), 0)):
            self.check(pair(), "add", ("d", read), ("UnknownTable", "d"))

    def test_the_thirteenth_read(self):
        for rows in ([("a", 0, [("a", (1,), 1)] * 12)], [(name, 0, [("b", (1,), 1)] * 6) for name in "ab"]):
            system = System(1, rows)
            self.check(system, "add", ("a", ("a", (1,), 1)), ("InvalidRead", ("a", (1,), 1)))
            self.check(system, "add", ("c", ("a", (1,), 1)), ("UnknownTable", "c"))
            sheet = Sheet(system)
            sheet.drop("a", 0)
            self.assertEqual(sheet.add("a", ("a", (1,), 1)), (1, 1))
            self.assertEqual(error_of(sheet.add, "a", ("a", (1,), 1)), ("InvalidRead", ("a", (1,), 1)))

    def test_reads_that_are_dropped(self):
        for number in (2, 3, 12, -1, -2, FAR, -FAR):
            self.check(pair(), "drop", ("a", number), ("InvalidRead", ("a", number)))
        self.check(System(1, [("a", 0, [])]), "drop", ("a", 0), ("InvalidRead", ("a", 0)))
        self.check(pair(), "drop", ("c", -1), ("InvalidRead", ("c", -1)))

    def test_a_read_is_handed_back_as_it_came(self):
        read = ("a", (0,), 0)
        try:
            Sheet(pair()).add("a", read)
        except ValueError as error:
            self.assertIs(error.value, read)


class CallByCallTest(unittest.TestCase):
    def run_beside_model(self, chance, system, many):
        sheet, model = Sheet(system), Model(system)
        for _ in range(many):
            kind, given = random_call(chance, sheet.system)
            before = copy.deepcopy(given)
            self.assertEqual(returned(getattr(sheet, kind), *given), model.call(kind, given))
            self.assertEqual(given, before)
            self.assertTrue(sheet.system == model.system())
        while model.former:
            self.assertEqual(returned(sheet.undo), model.call("undo", []))
            self.assertTrue(sheet.system == model.system())
        self.assertEqual(error_of(sheet.undo), ("NothingToUndo", 0))
        self.assertTrue(sheet.system == system)

    def test_many_calls(self):
        chance = random.Random(230)
        for number, system in enumerate(systems(231, 60)):
            self.run_beside_model(chance, system, 50 if number % 10 == 0 else 20)

    def test_counts_of_levels(self):
        chance, seen = random.Random(232), set()
        for system in systems(233, 120):
            sheet = Sheet(system)
            for _ in range(8):
                kind, given = random_call(chance, sheet.system)
                before = count_levels(sheet.system)
                found, error = returned(getattr(sheet, kind), *given)
                if kind != "undo" and error is None:
                    self.assertEqual(found, (before, count_levels(sheet.system)))
                    seen.add(found)
                    if kind == "put":
                        self.assertEqual(found[0], found[1])
        self.assertLessEqual({(0, 1), (1, 0), (1, 1), (1, None), (None, 1), (None, None)}, seen)


class UnreadyTest(unittest.TestCase):
    def test_known(self):
        self.assertEqual(list(Sheet(both()).unready()), [("a", (0, 1)), ("a", (1, 0))])
        self.assertEqual(list(Sheet(pair()).unready()), [])
        self.assertEqual(list(Sheet(single((0,))).unready()), [("a", (0,))])

    def test_by_name(self):
        system = System(1, [("z", 0, [("z", (0,), 1)]), ("b", 0, []), ("ab", 0, [("z", (2,), 1)]), ("m", 0, [("m", (-5,), 1)])])
        self.assertEqual(list(Sheet(system).unready()), [("ab", (2,)), ("m", (0,)), ("z", (0,))])

    def test_the_top_is_two(self):
        for place in range(5):
            system = System(1, [("a", 0, [("b", (place,), 1)]), ("b", 0, [("b", (0,), 1)])])
            wanted = [("a", (place,)), ("b", (0,))] if place <= 2 else [("b", (0,))]
            self.assertEqual(list(Sheet(system).unready()), wanted)

    def test_beside_least_unready(self):
        seen = 0
        for system in systems(234, 300):
            wanted = [(name, point) for name in system.names for point in least_unready(system, name, 2)]
            self.assertEqual(list(Sheet(system).unready()), wanted)
            seen += len(wanted) > 1
        self.assertGreater(seen, 50)

    def test_after_calls(self):
        sheet = Sheet(System(2, [("a", 1, [("a", (1, -1), 1)])]))
        self.assertEqual(list(sheet.unready()), [])
        sheet.add("a", ("a", (-1, 1), 2))
        self.assertEqual(list(sheet.unready()), [("a", (0, 1)), ("a", (1, 0))])
        sheet.undo()
        self.assertEqual(list(sheet.unready()), [])

    def test_a_run_that_stops_early(self):
        sheet = Sheet(both())
        for cell in sheet.unready():
            self.assertEqual(cell, ("a", (0, 1)))
            break
        run = sheet.unready()
        self.assertEqual([next(run), next(run), next(run, None)], [("a", (0, 1)), ("a", (1, 0)), None])
        one, other = sheet.unready(), sheet.unready()
        self.assertEqual([next(one), next(other), next(one), next(other)], [("a", (0, 1))] * 2 + [("a", (1, 0))] * 2)
        run = sheet.unready()
        next(run)
        del run
        sheet.drop("a", 0)
        self.assertEqual(list(sheet.unready()), [])

    def test_it_yields_one_by_one(self):
        # The first cell is there before the other tables are searched.
        rows = [("a", 0, [("a", (0,), 1)])] + [(name, 0, [(name, (1,), 1)]) for name in "bc"]
        run = Sheet(System(1, rows)).unready()
        self.assertIs(iter(run), run)
        self.assertEqual(next(run), ("a", (0,)))
        self.assertEqual(list(run), [])


class OfTextTest(unittest.TestCase):
    def test_texts(self):
        text = show_system(pair())
        for sheet in (Sheet.of_text(text), Sheet.of_text(text=text)):
            self.assertIsInstance(sheet, Sheet)
            self.assertTrue(sheet.system == pair())
            self.assertTrue(sheet == Sheet(pair()))
            self.assertEqual(error_of(sheet.undo), ("NothingToUndo", 0))
            self.assertEqual(sheet.put("a", 3), (2, 2))

    def test_of_a_sheet(self):
        sheet = Sheet(pair())
        sheet.put("a", 3)
        self.assertTrue(sheet.of_text("1 mod 2: a = 0") == Sheet(System(1, [("a", 0, [])], 2)))
        self.assertEqual(sheet.system.constant("a"), 3)

    def test_by_chance(self):
        for system in systems(235, 100):
            self.assertTrue(Sheet.of_text(reckoned.system_text(system)).system == system)

    def test_none(self):
        for text in ("", " ", "a[0]", "2 mod 97: a = 1 + a[1]", "2 mod 1: a = 1", "2 mod 97: a = 1 ", "2 mod 97: b = 1; a = 1"):
            self.assertEqual(error_of(Sheet.of_text, text), ("Unreadable", text))

    def test_methods_stand_in_the_class(self):
        for name in "add drop put undo unready of_text system __eq__ __init__".split():
            self.assertIn(name, vars(Sheet))
        self.assertEqual([Sheet.__module__, Sheet.__bases__], ["farreads.sheets", (object,)])


if __name__ == "__main__":
    unittest.main()
