"""[2] for the functions and for sheets: how they are called, what they leave as it was, what is new."""

import copy
import inspect
import unittest

from samples import both, error_of, grow, nest, pair, single

from farreads import bounds, cuts, far, levels, readings, ready, shifts, texts, values, walks, ways
from farreads.sheets import Sheet

FIRST = {"a": ((2, 2), 1), "b": ((2, 2), 0)}
SECOND = {"a": ((1, 0), 0), "b": ((0, 1), 0)}
ENDLESS = ([("a", (1, 2)), ("a", (0, 3)), ("a", (1, 2))], 0)


def calls():
    """The functions with arguments by name, in the order of the interface."""
    cell = ("a", (2, 1))
    return [
        (ready.is_ready, {"system": both(), "cell": cell}),
        (ready.endless_way, {"system": both(), "cell": cell}),
        (ready.shows_endless, {"system": both(), "cell": ("a", (1, 2)), "found": copy.deepcopy(ENDLESS)}),
        (ready.least_unready, {"system": both(), "name": "a", "top": 3}),
        (ways.longest_way, {"system": pair(), "cell": cell}),
        (ways.a_longest_way, {"system": pair(), "cell": cell}),
        (ways.needed, {"system": pair(), "cell": cell}),
        (values.value, {"system": pair(), "cell": cell}),
        (values.values_in, {"system": pair(), "name": "b", "top": 2}),
        (levels.schedule, {"system": nest()}),
        (levels.count_levels, {"system": nest()}),
        (levels.stuck_reads, {"system": nest()}),
        (levels.is_schedule, {"system": pair(), "levels": copy.deepcopy([FIRST, SECOND])}),
        (levels.drop, {"system": pair(), "level": copy.deepcopy(FIRST), "read": ("b", 1)}),
        (walks.closed_walk, {"system": both()}),
        (walks.blocks, {"system": both(), "reads": [("a", 0), ("a", 1)]}),
        (walks.walk_sum, {"system": pair(), "reads": [("a", 0), ("b", 1), ("a", 0)]}),
        (texts.show_system, {"system": nest()}),
        (texts.show_cell, {"cell": cell}),
        (readings.read_cell, {"text": "a[2 1]"}),
        (bounds.way_bound, {"system": single((1, -1), (0, 1)), "cell": cell}),
        (bounds.bound_numbers, {"system": single((1, -1), (0, 1)), "cell": cell}),
        (bounds.flow_weights, {"system": single((1, -1), (0, 1)), "cell": cell}),
        (bounds.bound_worth, {"system": single((1, 0)), "cell": cell, "found": (((1, 1), (0, 1)), {"a": (0, 1)})}),
        (bounds.flow_worth, {"system": single((1, 0), (0, 1)), "cell": cell, "found": {("a", 1): (1, 2)}}),
        (shifts.greatest_shifts, {"system": single((1, 0))}),
        (shifts.barring_walk, {"system": nest()}),
        (shifts.bars, {"system": both(), "reads": [("a", 0), ("a", 0)]}),
        (cuts.fewest_cuts, {"system": both()}),
        (cuts.must_go, {"system": both()}),
        (far.far_value, {"system": grow(), "name": "a", "place": 10 ** 30}),
    ]


def calls_that_raise():
    return [
        (ready.is_ready, {"system": both(), "cell": ("a", (2, -1))}),
        (ready.endless_way, {"system": both(), "cell": ("c", (2, 1))}),
        (ready.shows_endless, {"system": both(), "cell": ("a", (1,)), "found": copy.deepcopy(ENDLESS)}),
        (ready.least_unready, {"system": both(), "name": "a", "top": -3}),
        (ways.longest_way, {"system": both(), "cell": ("a", (2, 1))}),
        (ways.a_longest_way, {"system": both(), "cell": ("a", (2, 1))}),
        (ways.needed, {"system": both(), "cell": ("a", (2, 1))}),
        (values.value, {"system": both(), "cell": ("a", (2, 1))}),
        (values.values_in, {"system": both(), "name": "c", "top": 2}),
        (levels.drop, {"system": pair(), "level": copy.deepcopy(FIRST), "read": ("b", 2)}),
        (walks.walk_sum, {"system": pair(), "reads": [("a", 0), ("b", 2), ("a", 0)]}),
        (readings.read_system, {"text": "2 mod 97: b = 0; a = 0"}),
        (readings.read_cell, {"text": "a[2 -1]"}),
        (bounds.way_bound, {"system": pair(), "cell": ("a", (2, -1))}),
        (bounds.bound_numbers, {"system": pair(), "cell": ("c", (2, 1))}),
        (bounds.flow_weights, {"system": pair(), "cell": ("a", (2,))}),
        (bounds.bound_worth, {"system": pair(), "cell": ("c", ()), "found": (((1, 1),), {"a": (0, 1)})}),
        (bounds.flow_worth, {"system": pair(), "cell": ("b", ()), "found": {("a", 1): (1, 2)}}),
        (shifts.shifted, {"system": pair(), "shifts": {"b": (1, 2), "c": (3,)}}),
        (far.far_value, {"system": single((0,)), "name": "a", "place": 10 ** 30}),
    ]


def empty_out(thing):
    """Take away all that stands in lists and dicts, and in those within them."""
    parts = list(thing.values()) if isinstance(thing, dict) else list(thing) if isinstance(thing, (list, tuple)) else []
    for part in parts:
        empty_out(part)
    if isinstance(thing, (list, dict)):
        thing.clear()


class CallsTest(unittest.TestCase):
    def test_by_position_and_by_name(self):
        for call, given in calls():
            with self.subTest(call=call.__name__):
                wanted = call(*given.values())
                self.assertEqual(call(**given), wanted)
                self.assertEqual(call(**dict(reversed(list(given.items())))), wanted)
                self.assertEqual(list(inspect.signature(call).parameters), list(given))

    def test_arguments_stay_as_they_were(self):
        for call, given in calls():
            with self.subTest(call=call.__name__):
                before = copy.deepcopy(given)
                call(**given)
                self.assertEqual(given, before)

    def test_arguments_of_calls_that_raise_stay_as_they_were(self):
        for call, given in calls_that_raise():
            with self.subTest(call=call.__name__):
                before = copy.deepcopy(given)
                self.assertIsNotNone(error_of(call, **given))
                self.assertEqual(given, before)

    def test_the_sequence_of_dicts_stays(self):
        level = {"b": ((2, 2), 0), "a": ((2, 2), 1)}
        levels.drop(pair(), level, ("a", 0))
        levels.is_schedule(pair(), [level, SECOND])
        self.assertEqual(list(level), ["b", "a"])

    def test_what_is_returned_is_new_each_time(self):
        for call, given in calls():
            with self.subTest(call=call.__name__):
                wanted = copy.deepcopy(call(**given))
                before = copy.deepcopy(given)
                empty_out(call(**given))
                self.assertEqual(given, before)
                self.assertEqual(call(**given), wanted)

    def test_levels_share_no_dict(self):
        found = levels.schedule(nest())
        self.assertEqual(len({id(level) for level in found}), 3)

    def test_a_way_of_one_cell_is_a_new_list(self):
        for call in (ways.a_longest_way, ways.needed):
            call(both(), ("a", (0, 0))).clear()
            self.assertEqual(call(both(), ("a", (0, 0))), [("a", (0, 0))])

    def test_each_is_defined_in_its_file(self):
        for call, _ in calls():
            self.assertEqual(call.__code__.co_filename.replace("\\", "/").split("/")[-1][:-3], call.__module__[9:])
        listed = {
            ready: "shows_endless is_ready endless_way least_unready",
            ways: "longest_way a_longest_way needed",
            values: "value values_in",
            levels: "schedule count_levels stuck_reads is_schedule drop",
            walks: "closed_walk blocks walk_sum",
            texts: "show_system show_cell",
            readings: "read_system read_cell",
            bounds: "way_bound bound_numbers flow_weights bound_worth flow_worth",
            shifts: "shifted greatest_shifts barring_walk bars",
            cuts: "fewest_cuts must_go",
            far: "far_value",
        }
        for module, names in listed.items():
            for name in names.split():
                self.assertEqual(getattr(module, name).__module__, module.__name__)

    def test_dicts_and_tuples_as_they_were(self):
        numbers = (((1, 1), (0, 1)), {"a": (0, 1)})
        weights = {("a", 1): (1, 2), ("a", 0): (0, 1)}
        found = {"b": (1, 2), "a": (0, 9)}
        bounds.bound_worth(single((1, 0)), ("a", (1, 1)), numbers)
        bounds.flow_worth(single((1, 0), (0, 1)), ("a", (1, 1)), weights)
        shifts.shifted(pair(), found)
        self.assertEqual(numbers, (((1, 1), (0, 1)), {"a": (0, 1)}))
        self.assertEqual(list(weights.items()), [(("a", 1), (1, 2)), (("a", 0), (0, 1))])
        self.assertEqual(list(found.items()), [("b", (1, 2)), ("a", (0, 9))])

    def test_systems_by_position_and_by_name(self):
        text = texts.show_system(nest())
        for call in (readings.read_system, Sheet.of_text):
            self.assertTrue(call(text=text) == call(text))
            self.assertEqual(list(inspect.signature(call).parameters), ["text"])
        for call, names in (
            (shifts.shifted, ["system", "shifts"]),
            (Sheet, ["system"]),
            (Sheet(pair()).add, ["name", "read"]),
            (Sheet(pair()).drop, ["name", "number"]),
            (Sheet(pair()).put, ["name", "constant"]),
            (Sheet(pair()).undo, []),
            (Sheet(pair()).unready, []),
        ):
            self.assertEqual(list(inspect.signature(call).parameters), names)

    def test_systems_that_are_read_share_nothing(self):
        text = texts.show_system(nest())
        one, other = readings.read_system(text), readings.read_system(text)
        one.reads("a").clear()
        one.names.clear()
        self.assertTrue(one == other)
        self.assertTrue(one == nest())

    def test_any_number_of_calls_on_a_system(self):
        system = pair()
        for _ in range(200):
            self.assertEqual(ways.longest_way(system, ("a", (1, 0))), 4)
            self.assertEqual(levels.count_levels(system), 2)
        self.assertTrue(system == pair())


if __name__ == "__main__":
    unittest.main()
