"""[3]: the error classes."""

import unittest

from farreads import errors

NAMES = [
    "InvalidSystem",
    "InvalidName",
    "InvalidAxes",
    "UnknownTable",
    "InvalidCell",
    "InvalidRead",
    "InvalidShifts",
    "InvalidNumber",
    "NotReady",
    "NoFar",
    "NothingToUndo",
    "Unreadable",
]
VALUES = [0, -1, 10 ** 40, None, "a text", "", ("a", 3), ("a", (1, 2))]


class ErrorsTest(unittest.TestCase):
    def classes(self):
        return [getattr(errors, name) for name in NAMES]

    def test_base(self):
        self.assertEqual(errors.ReadError.__bases__, (ValueError,))

    def test_all_classes_are_direct_subclasses_of_the_base(self):
        for made in self.classes():
            with self.subTest(made=made):
                self.assertEqual(made.__bases__, (errors.ReadError,))
                self.assertTrue(issubclass(made, ValueError))

    def test_no_class_is_one_of_another(self):
        for made in self.classes():
            for other in self.classes():
                with self.subTest(made=made, other=other):
                    self.assertEqual(issubclass(made, other), made is other)

    def test_thirteen_classes_and_no_more(self):
        found = [thing for thing in vars(errors).values() if isinstance(thing, type)]
        self.assertEqual(sorted(each.__name__ for each in found), sorted(NAMES + ["ReadError"]))
        self.assertEqual({each.__module__ for each in found}, {"farreads.errors"})

    def test_value_by_position_and_by_name(self):
        for made in self.classes() + [errors.ReadError]:
            for worth in VALUES:
                with self.subTest(made=made, worth=worth):
                    self.assertEqual(made(worth).value, worth)
                    self.assertEqual(made(value=worth).value, worth)

    def test_exactly_one_argument(self):
        for made in self.classes() + [errors.ReadError]:
            with self.subTest(made=made):
                self.assertRaises(TypeError, made)
                self.assertRaises(TypeError, made, 1, 2)
                self.assertRaises(TypeError, made, wrong=1)

    def test_raised_and_caught(self):
        for made in self.classes():
            for base in (made, errors.ReadError, ValueError):
                with self.subTest(made=made, base=base):
                    with self.assertRaises(base) as caught:
                        raise made(("a", 1))
                    self.assertEqual(caught.exception.value, ("a", 1))


if __name__ == "__main__":
    unittest.main()
