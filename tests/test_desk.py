"""Point 36 and the interface of desk.py: what stands on a desk, and its names."""

import unittest

from trackedreads import desk as module
from trackedreads.desk import Cell, Desk, Effect, Kept
from trackedreads.errors import NoName, Taken
from trackedreads.books import Book


def nothing():
    return 0


class Forms(unittest.TestCase):
    def test_classes_and_their_methods_stand_in_the_file(self):
        for kind, names in ((Desk, "cell kept effect settle together quietly told __getitem__ "
                                   "__setitem__ __contains__ __len__ __iter__ MOST_RUNS"),
                            (Cell, "__call__ value put __iadd__"), (Kept, "__call__ held"),
                            (Effect, "__call__")):
            self.assertEqual(kind.__module__, module.__name__)
            for name in names.split():
                self.assertIn(name, vars(kind))
        self.assertEqual(Desk.MOST_RUNS, 100)
        self.assertEqual(Desk().MOST_RUNS, 100)

    def test_what_is_made(self):
        desk = Desk()
        cell, kept = desk.cell("a", 3), desk.kept("p", nothing)
        effect = desk.effect("e", lambda: (5,))
        for thing, kind, name in ((cell, Cell, "a"), (kept, Kept, "p"), (effect, Effect, "e")):
            self.assertIs(thing.__class__, kind)
            self.assertEqual(thing.name, name)
        self.assertEqual((cell(), cell.value), (3, 3))
        self.assertEqual((kept.runs, kept.held), (0, None))
        self.assertEqual((effect.runs, effect.report), (1, (5,)))

    def test_arguments_by_name(self):
        desk = Desk()
        cell = desk.cell(name="a", value=1)
        kept = desk.kept(name="p", work=cell)
        effect = desk.effect(work=kept, name="e")
        cell.put(value=2)
        self.assertEqual(effect.report, 2)
        self.assertEqual(desk.together(work=nothing), 0)
        self.assertEqual(desk.quietly(work=nothing), 0)
        self.assertEqual(list(desk.told(name="e")), [1, 2])

    def test_equal_to_nothing_else(self):
        desk = Desk()
        things = [desk, desk.cell("a", 0), desk.kept("p", nothing), desk.effect("e", nothing), Desk(),
                  Book(["cell a = 0", "effect e", "end"]), 0, "a", None, ()]
        for at, one in enumerate(things):
            for other in things[:at]:
                self.assertFalse(one == other)
                self.assertTrue(one != other)


class Putting(unittest.TestCase):
    def setUp(self):
        self.desk = Desk()
        self.cell = self.desk.cell("a", 5)
        self.effect = self.desk.effect("e", self.cell)

    def check(self, value, many):
        self.assertEqual([self.cell(), self.cell.value, self.desk["a"]], [value] * 3)
        self.assertEqual((self.effect.report, self.effect.runs), (value, many))

    def test_in_every_form(self):
        self.assertIsNone(self.cell.put(6))
        self.check(6, 2)
        self.cell.value = 7
        self.check(7, 3)
        self.desk["a"] = 8
        self.check(8, 4)
        cell = self.cell
        cell += 3
        self.assertIs(cell, self.cell)
        self.check(11, 5)
        self.desk["a"] += 1
        self.check(12, 6)
        self.cell.value -= 20
        self.check(-8, 7)

    def test_the_sum_with_zero_and_less(self):
        cell = self.cell
        cell += 0
        self.check(5, 1)
        cell += -5
        self.check(0, 2)
        cell += 10 ** 30 - 1
        self.check(10 ** 30 - 1, 3)

    def test_a_cell_in_a_list(self):
        cells = [self.cell]
        cells[0] += 4
        self.assertIs(cells[0], self.cell)
        self.check(9, 2)

    def test_the_same_value(self):
        self.cell.put(5)
        self.cell.value = 5
        self.desk["a"] = 5
        self.check(5, 1)

    def test_large_values(self):
        for value in (10 ** 30 - 1, -(10 ** 30 - 1)):
            self.cell.put(value)
            self.assertEqual(self.desk["a"], value)


class Names(unittest.TestCase):
    def setUp(self):
        self.desk = Desk()
        self.desk.cell("a", 0)
        self.desk.kept("p", nothing)
        self.desk.effect("e", nothing)

    def make(self, kind, name):
        if kind == "cell":
            return self.desk.cell(name, 0)
        return self.desk.kept(name, nothing) if kind == "kept" else self.desk.effect(name, nothing)

    def test_in_use(self):
        for name in ("a", "p", "e"):
            self.assertIs(name in self.desk, True)
            for kind in ("cell", "kept", "effect"):
                with self.assertRaises(Taken) as caught:
                    self.make(kind, name)
                self.assertEqual(caught.exception.name, name)
        self.assertEqual(len(self.desk), 1)
        self.assertEqual(self.desk["a"], 0)

    def test_no_others_are(self):
        for name in ("", "b", "A", "a ", None, True, 0, ["a"], ("a",), [], ()):
            self.assertIs(name in self.desk, False)

    def test_any_string_is_a_name(self):
        for at, name in enumerate(("", "a b", "cell", "Xx", "~", "zzzzzzzzzzzz")):
            self.make(("cell", "kept", "effect")[at % 3], name)
            self.assertIs(name in self.desk, True)

    def test_of_an_effect_from_the_beginning_of_its_first_run(self):
        seen = []

        def work():
            seen.append("f" in self.desk)
            with self.assertRaises(Taken):
                self.desk.cell("f", 0)
            return ()

        self.assertIs("f" in self.desk, False)
        self.desk.effect("f", work)
        self.assertEqual(seen, [True])

    def test_no_run_for_a_name_in_use(self):
        def work():
            raise ValueError("it is run")

        with self.assertRaises(Taken):
            self.desk.effect("e", work)

    def test_no_name_of_a_cell(self):
        for name in ("b", "p", "e", "", None, True, 0, ["a"], ("a",), []):
            with self.assertRaises(NoName) as caught:
                self.desk[name]
            self.assertEqual(caught.exception.name, name)
            with self.assertRaises(NoName) as caught:
                self.desk[name] = 1
            self.assertEqual(caught.exception.name, name)
            self.assertIs(caught.exception.name.__class__, name.__class__)
        self.assertEqual(list(self.desk), [("e", 0)])

    def test_nothing_is_settled_by_a_name_that_is_none(self):
        cell = self.desk.cell("c", 0)
        effect = self.desk.effect("g", cell)

        def work():
            cell.put(1)
            with self.assertRaises(NoName):
                self.desk["zz"] = 1
            return effect.runs

        self.assertEqual(self.desk.together(work), 1)


class Kinds(unittest.TestCase):
    def test_values_of_answers_and_reports(self):
        desk = Desk()
        for at, value in enumerate((0, -7, "", "text", (), (1, "a", ((), (2,))), 10 ** 59)):
            kept = desk.kept(f"p{at}", lambda value=value: value)
            effect = desk.effect(f"e{at}", kept)
            self.assertEqual((kept(), kept.held, effect.report), (value,) * 3)

    def test_they_are_compared_by_their_values(self):
        desk = Desk()
        cell = desk.cell("a", 1)
        kept = desk.kept("p", lambda: ("x", (cell() // 10,)))
        effect = desk.effect("e", kept)
        cell.put(2)
        self.assertEqual((kept.runs, effect.runs), (2, 1))
        cell.put(12)
        self.assertEqual((kept.runs, effect.runs, effect.report), (3, 2, ("x", (1,))))

    def test_twenty_four_things(self):
        desk = Desk()
        cell = desk.cell("a", 1)
        below = cell
        for at in range(8):
            below = desk.kept(f"p{at}", lambda below=below: below() + 1)
        effects = [desk.effect(f"e{at}", below) for at in range(15)]
        self.assertEqual([effect.report for effect in effects], [9] * 15)
        cell.put(5)
        self.assertEqual([effect.report for effect in effects], [13] * 15)
        self.assertEqual(below.runs, 2)


class Apart(unittest.TestCase):
    def test_two_desks_share_nothing(self):
        one, other = Desk(), Desk()
        for desk, value in ((one, 1), (other, 2)):
            desk.effect("e", desk.cell("a", value))
        one["a"] = 5
        self.assertEqual((one["a"], other["a"]), (5, 2))
        self.assertEqual((list(one), list(other)), ([("e", 1), ("e", 5)], [("e", 2)]))
        one.kept("p", nothing)
        self.assertNotIn("p", other)

    def test_a_run_on_one_notes_nothing_of_another(self):
        one, other = Desk(), Desk()
        near, far = one.cell("a", 1), other.cell("a", 1)
        effect = one.effect("e", lambda: (near(), far()))
        far.put(2)
        self.assertEqual(effect.report, (1, 1))
        self.assertEqual(effect.runs, 1)
        near.put(2)
        self.assertEqual(effect.report, (2, 2))

    def test_reads_are_noted_by_the_run_of_their_own_desk(self):
        one, other = Desk(), Desk()
        near, far = one.cell("a", 1), other.cell("b", 1)
        made = []

        def outer():
            # Inside a run of the other desk, this one's run is still the innermost one here.
            if not made:
                made.append(other.effect("f", lambda: (far(), near())))
            return 0

        effect = one.effect("e", outer)
        near.put(2)
        self.assertEqual((effect.runs, made[0].runs), (2, 1))
        far.put(2)
        self.assertEqual((effect.runs, made[0].runs, made[0].report), (2, 2, (2, 2)))

    def test_quiet_calls_of_another_desk(self):
        one, other = Desk(), Desk()
        cell = one.cell("a", 1)
        effect = one.effect("e", lambda: other.quietly(cell))
        cell.put(2)
        self.assertEqual(effect.runs, 2)

    def test_a_run_on_one_lets_another_settle(self):
        one, other = Desk(), Desk()
        near, far = one.cell("a", 1), other.cell("b", 1)
        follower = other.effect("f", far)
        seen = []

        def work():
            far.put(near())
            seen.append(follower.report)
            return 0

        one.effect("e", work)
        near.put(7)
        self.assertEqual(seen, [1, 7])

    def test_no_deed_on_another_desk_is_misplaced(self):
        one, other = Desk(), Desk()
        far = other.cell("b", 1)

        def work():
            far.put(far.value + 1)
            other.settle()
            other.together(nothing)
            other.effect(f"e{far.value}", nothing)
            return far.value

        kept = one.kept("p", work)
        self.assertEqual(kept(), 2)
        self.assertIn("e2", other)


if __name__ == "__main__":
    unittest.main()
