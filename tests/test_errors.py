"""Points 2 and the interface of errors.py."""

import unittest

from trackedreads import errors

ONE_FIELD = {
    "BadBook": "at", "TooMany": "what", "NoName": "name", "BadArguments": "count",
    "NotWaiting": "name", "BadState": "part", "BadRow": "at", "BadAsk": "ask",
    "BadStep": "at", "Unlike": "what", "HasWait": "name", "Taken": "name",
    "TooLong": "cells", "Misplaced": "name", "Busy": "name",
}
RUNTIME = ("Ring", "Over", "TooLong", "Misplaced", "Busy")
ANY_VALUES = (
    0, -1, 10 ** 60 - 1, True, False, None, "", "word", "two\nlines", [], (), [1, [2, (3, [4])]],
    (("a", 1), ["b"]), [[[[[[[[[["deep"]]]]]]]]]], list(range(10000)),
)


def made(name, /, *given, **named):
    return getattr(errors, name)(*given, **named)


class Fields(unittest.TestCase):
    def test_one_field_by_position_and_by_name(self):
        for name, field in ONE_FIELD.items():
            for value in ANY_VALUES:
                with self.subTest(name=name):
                    by_position = getattr(made(name, value), field)
                    by_name = getattr(made(name, **{field: value}), field)
                    self.assertEqual([by_position, by_name], [value, value])
                    self.assertIs(by_position.__class__, value.__class__)

    def test_ring_has_two_fields_in_this_order(self):
        for why in (
            errors.Ring(("e",), ("a", "b")),
            errors.Ring(effects=("e",), cells=("a", "b")),
            errors.Ring(cells=("a", "b"), effects=("e",)),
            errors.Ring(("e",), cells=("a", "b")),
        ):
            self.assertEqual([why.effects, why.cells], [("e",), ("a", "b")])
        for value in ANY_VALUES:
            why = errors.Ring(value, [value])
            self.assertEqual([why.effects, why.cells], [value, [value]])

    def test_over_has_no_field(self):
        self.assertEqual(vars(errors.Over()), {})

    def test_a_field_is_needed(self):
        for name in [*ONE_FIELD, "Ring"]:
            with self.assertRaises(TypeError):
                made(name)
        with self.assertRaises(TypeError):
            errors.Ring(("e",))

    def test_fields_are_the_only_ones(self):
        for name, field in ONE_FIELD.items():
            self.assertEqual(list(vars(made(name, 1))), [field])

    def test_fields_are_copies(self):
        for name, field in ONE_FIELD.items():
            inner = [1]
            given = ["a", (inner, 2)]
            why = made(name, given)
            given.append("b")
            inner.append(3)
            self.assertEqual(getattr(why, field), ["a", ([1], 2)])
        effects, cells = ["e"], ["a"]
        why = errors.Ring(effects, cells)
        effects.append("f")
        cells.append("b")
        self.assertEqual([why.effects, why.cells], [["e"], ["a"]])

    def test_making_one_changes_no_argument(self):
        given = [1, [2, (3, [4])]]
        errors.NoName(given)
        self.assertEqual(given, [1, [2, (3, [4])]])

    def test_two_errors_share_nothing(self):
        one, other = errors.BadBook([1]), errors.BadBook([1])
        one.at.append(2)
        self.assertEqual(other.at, [1])


class Families(unittest.TestCase):
    def test_tracked_error_is_a_value_error(self):
        self.assertEqual(errors.TrackedError.__bases__, (ValueError,))

    def test_classes_directly_above(self):
        for name in [*ONE_FIELD, "Ring", "Over"]:
            above = RuntimeError if name in RUNTIME else errors.TrackedError
            with self.subTest(name=name):
                self.assertEqual(getattr(errors, name).__bases__, (above,))

    def test_no_error_is_of_another_class_of_the_list(self):
        every = {name: made(name, 1) for name in ONE_FIELD}
        every["Ring"] = errors.Ring((), ())
        every["Over"] = errors.Over()
        self.assertEqual(len(every), 17)
        for name, why in every.items():
            of = [other for other in every if isinstance(why, getattr(errors, other))]
            self.assertEqual(of, [name])
            self.assertEqual(isinstance(why, errors.TrackedError), name not in RUNTIME)
            self.assertEqual(isinstance(why, ValueError), name not in RUNTIME)
            self.assertEqual(isinstance(why, RuntimeError), name in RUNTIME)

    def test_defined_in_this_file(self):
        for name in ["TrackedError", "Ring", "Over", *ONE_FIELD]:
            self.assertEqual(getattr(errors, name).__module__, "trackedreads.errors")

    def test_raised_and_caught(self):
        with self.assertRaises(ValueError):
            raise errors.BadBook(3)
        with self.assertRaises(RuntimeError):
            raise errors.Over()

    def test_equal_to_nothing_of_another_class(self):
        self.assertFalse(errors.BadBook(3) == 3)
        self.assertFalse(errors.BadBook(3) == errors.BadRow(3))


if __name__ == "__main__":
    unittest.main()
