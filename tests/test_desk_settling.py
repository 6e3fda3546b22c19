"""Points 38, 39, 15 and 16 on desks: putting, settling, batches and what is due."""

import unittest

from trackedreads.desk import Desk
from trackedreads.errors import TooLong


class Case(unittest.TestCase):
    def setUp(self):
        self.desk = Desk()
        self.a = self.desk.cell("a", 0)
        self.b = self.desk.cell("b", 0)
        self.seen = []

    def telling(self, name, work):
        """An effect that writes its name down at each run."""
        def counted():
            self.seen.append(name)
            return work()
        return self.desk.effect(name, counted)


class Settling(Case):
    def test_behind_each_put(self):
        effect = self.telling("e", lambda: (self.a(), self.b()))
        self.a.put(1)
        self.assertEqual(effect.report, (1, 0))
        self.b.put(1)
        self.assertEqual(effect.report, (1, 1))
        self.assertEqual(effect.runs, 3)

    def test_a_put_of_the_same_value_settles_what_is_due(self):
        effect = self.telling("e", self.a)
        for form in ("put", "value", "item", "add", "settle", "together", "effect"):
            with self.subTest(form=form):
                self.leave_due(effect)
                before = effect.runs
                self.settle_by(form)
                self.assertEqual((effect.runs, effect.report), (before + 1, self.a.value))

    def leave_due(self, effect):
        """An error leaves the settling in which the effect would be run."""
        def raising():
            self.a.put(self.a.value + 1)
            raise KeyError("a")

        with self.assertRaises(KeyError):
            self.desk.together(raising)
        self.assertNotEqual(effect.report, self.a.value)

    def settle_by(self, form):
        cell = self.b
        if form == "put":
            cell.put(cell.value)
        elif form == "value":
            cell.value = cell.value
        elif form == "item":
            self.desk["b"] = self.desk["b"]
        elif form == "add":
            cell += 0
        elif form == "settle":
            self.assertIsNone(self.desk.settle())
        elif form == "together":
            self.desk.together(lambda: None)
        else:
            self.desk.effect("z", lambda: 0)

    def test_what_does_not_settle(self):
        effect = self.telling("e", self.a)
        self.leave_due(effect)
        kept = self.desk.kept("p", self.a)
        self.desk.cell("d", 0)
        for _ in range(2):
            kept()
            self.a()
            self.desk.quietly(self.a)
            self.assertEqual(self.a.value, self.desk["a"])
            list(self.desk)
        self.assertEqual(effect.runs, 1)
        self.desk.settle()
        self.assertEqual(effect.runs, 2)

    def test_the_first_one_due_in_the_order_in_which_they_were_made(self):
        for name in ("z", "m", "k"):
            self.telling(name, self.a)
        self.seen.clear()
        self.a.put(1)
        self.assertEqual(self.seen, ["z", "m", "k"])

    def test_rounds_begin_anew_behind_each_run(self):
        self.telling("e", self.b)
        self.telling("f", lambda: self.b.put(self.a()))
        self.telling("g", self.a)
        self.seen.clear()
        self.a.put(1)
        self.assertEqual(self.seen, ["f", "e", "g"])

    def test_all_are_checked_in_each_round(self):
        # The first effect is due; the answer that the second noted is worked out all the same.
        first = self.telling("e", lambda: (self.a(), kept.held if self.a.value else None))
        kept = self.desk.kept("p", lambda: self.a() * 10)
        self.telling("f", kept)
        self.a.put(1)
        self.assertEqual(first.report, (1, 10))

    def test_a_check_ends_at_the_first_note_that_differs(self):
        kept = self.desk.kept("p", lambda: self.a() * 10)
        effect = self.telling("e", lambda: (self.a(), kept.held, kept()))
        self.a.put(1)
        # So the answer was not worked out before the run.
        self.assertEqual(effect.report, (1, 0, 10))

    def test_effects_that_put_what_they_read(self):
        def work():
            if self.a() < 5:
                self.a.put(self.a.value + 1)
            return self.a.value

        effect = self.telling("e", work)
        self.assertEqual(list(self.desk.told("e")), [1, 2, 3, 4, 5, 5])
        self.a.put(4)
        self.assertEqual(effect.report, 5)
        self.assertEqual(effect.runs, 8)

    def test_none_inside_a_run(self):
        follower = self.telling("e", self.a)

        def work():
            self.b()
            self.a.put(self.a.value + 1)
            self.desk.settle()
            self.desk.together(lambda: self.a.put(self.a.value + 1))
            made = self.desk.effect(f"g{self.b.value}", lambda: 0)
            made()
            self.seen.append(follower.runs)
            return ()

        self.telling("f", work)
        self.assertEqual(self.seen, ["e", "f", 1, "e"])
        self.assertEqual(follower.report, 2)

    def test_none_in_an_outer_run_behind_an_inner_one(self):
        follower = self.telling("e", self.a)
        inner = self.telling("f", lambda: self.a.put(5) or 0)

        def outer():
            inner()
            return follower.runs

        self.a.put(1)
        runs = follower.runs
        effect = self.telling("g", outer)
        self.assertEqual(effect.report, runs)
        self.assertEqual(follower.report, 5)


class Making(Case):
    def test_an_effect_is_run_at_once(self):
        effect = self.desk.effect("e", lambda: (self.a(), self.b()))
        self.assertEqual((effect.report, effect.runs, list(self.desk)), ((0, 0), 1, [("e", (0, 0))]))

    def test_then_there_is_a_settling(self):
        follower = self.telling("e", self.a)
        self.telling("f", lambda: self.a.put(3) or 0)
        self.assertEqual(follower.report, 3)
        # Also of the effect itself.
        other = self.telling("g", lambda: self.b() or self.b.put(2) or 0)
        self.assertEqual((other.runs, other.report), (2, 2))

    def test_none_in_a_batch(self):
        follower = self.telling("e", self.a)

        def work():
            effect = self.telling("f", lambda: self.a.put(3) or 7)
            self.seen.append((effect.report, follower.report))

        self.desk.together(work)
        self.assertEqual(self.seen, ["e", "f", (7, 0), "e"])

    def test_one_that_is_made_in_the_first_run_of_another_comes_before_it(self):
        def outer():
            if self.b.value == 0:
                self.b.put(1)
                self.telling("f", self.a)
            return self.a()

        self.telling("e", outer)
        self.telling("g", self.a)
        self.seen.clear()
        self.a.put(1)
        self.assertEqual(self.seen, ["f", "e", "g"])

    def test_one_that_is_made_in_a_later_run_comes_behind(self):
        def outer():
            if self.b() == 1 and "f" not in self.desk:
                self.telling("f", self.a)
            return self.a()

        self.telling("e", outer)
        self.telling("g", self.a)
        self.b.put(1)
        self.seen.clear()
        self.a.put(1)
        self.assertEqual(self.seen, ["e", "g", "f"])

    def test_it_is_not_checked_before_its_first_run_is_over(self):
        # A settling of this desk cannot begin in that run; what it makes due is run behind it.
        def work():
            seen = self.a()
            self.a.put(1)
            self.desk.settle()
            self.seen.append(("settled", seen))
            return seen

        effect = self.telling("e", work)
        self.assertEqual(self.seen, ["e", ("settled", 0), "e", ("settled", 1)])
        self.assertEqual(effect.runs, 2)


class CallingEffects(Case):
    def test_due_or_not(self):
        effect = self.telling("e", self.a)
        self.assertEqual(effect(), 0)
        self.assertEqual((effect.runs, len(self.desk)), (2, 2))

    def test_what_the_run_told_is_returned(self):
        def work():
            seen = self.a()
            if seen % 2:
                self.a.put(seen + 1)
            return seen

        effect = self.telling("e", work)
        self.desk.together(lambda: self.a.put(1))
        self.assertEqual(effect.report, 2)
        # The settling behind the call tells once more, but the call gives what its own run told.
        result = self.desk.together(lambda: (self.a.put(3), effect())[1])
        self.assertEqual((result, effect.report), (3, 4))

    def test_a_settling_behind_it(self):
        follower = self.telling("f", self.b)
        effect = self.telling("e", lambda: self.b.put(self.a.value) or 0)
        self.a.put(4)
        self.assertEqual(follower.report, 0)
        self.assertEqual(effect(), 0)
        self.assertEqual(follower.report, 4)

    def test_none_in_a_batch_or_run(self):
        follower = self.telling("f", self.b)
        effect = self.telling("e", lambda: self.b.put(self.a.value) or 0)
        self.a.put(4)
        self.assertEqual(self.desk.together(lambda: (effect(), follower.report)[1]), 0)
        self.assertEqual(follower.report, 4)
        self.a.put(5)
        self.telling("g", lambda: (effect(), self.seen.append(follower.report))[0])
        self.assertEqual((self.seen[-2:], follower.report), ([4, "f"], 5))

    def test_new_notes(self):
        effect = self.telling("e", lambda: self.b() if self.a.value else 0)
        self.a.put(1)
        self.b.put(1)
        self.assertEqual(effect.runs, 1)
        effect()
        self.b.put(2)
        self.assertEqual((effect.runs, effect.report), (3, 2))


class Batches(Case):
    def test_one_settling_behind_it(self):
        effect = self.telling("e", lambda: (self.a(), self.b()))

        def work(x, y):
            self.a.put(x)
            self.b.value = y
            self.desk["a"] += 1
            cell = self.b
            cell += 1
            self.desk.settle()
            return effect.runs

        self.assertEqual(self.desk.together(work, 5, 6), 1)
        self.assertEqual((effect.report, effect.runs), ((6, 7), 2))

    def test_puts_are_seen_at_once(self):
        kept = self.desk.kept("p", self.a)

        def work():
            self.a.put(3)
            return (self.a.value, kept())

        self.assertEqual(self.desk.together(work), (3, 3))

    def test_a_settling_also_if_nothing_was_put(self):
        effect = self.telling("e", self.a)
        with self.assertRaises(KeyError):
            self.desk.together(lambda: (self.a.put(1), {}["a"]))
        self.assertEqual(effect.runs, 1)
        self.desk.together(lambda: None)
        self.assertEqual(effect.runs, 2)

    def test_batches_in_batches(self):
        effect = self.telling("e", self.a)

        def inner():
            self.a.put(1)

        def middle():
            self.desk.together(inner)
            self.seen.append(effect.runs)
            self.desk.together(inner)
            self.a.put(2)
            self.seen.append(effect.runs)

        def outer():
            self.desk.together(middle)
            self.seen.append(effect.runs)

        self.desk.together(outer)
        self.assertEqual(self.seen, ["e", 1, 1, 1, "e"])

    def test_in_a_run(self):
        follower = self.telling("f", self.b)

        def work():
            self.a()
            self.desk.together(lambda: self.b.put(self.b.value + 1))
            return follower.runs

        effect = self.telling("e", work)
        self.assertEqual((effect.report, follower.runs), (1, 2))
        self.a.put(1)
        self.assertEqual((effect.report, follower.runs), (2, 3))

    def test_reads_in_a_batch_in_a_run_are_noted(self):
        effect = self.telling("e", lambda: self.desk.together(self.a))
        self.a.put(1)
        self.assertEqual((effect.runs, effect.report), (2, 1))

    def test_a_run_in_a_batch(self):
        effect = self.telling("e", self.a)

        def work():
            self.a.put(2)
            effect()
            self.a.put(3)
            return effect.report

        self.assertEqual(self.desk.together(work), 2)
        self.assertEqual((effect.runs, effect.report), (3, 3))


class TooLongOnes(Case):
    def endless(self, most):
        """An effect that makes itself due until the cell has this value."""
        def work():
            now = self.a()
            if now < most:
                self.a.put(now + 1)
            return now
        return work

    def test_a_hundred_runs_and_one_more(self):
        # The first run is none of the settling; each run but the last one needs another.
        effect = self.desk.effect("e", self.endless(100))
        self.assertEqual((effect.runs, self.a.value), (101, 100))
        other = Desk()
        cell = other.cell("a", 0)
        self.a = cell
        with self.assertRaises(TooLong) as caught:
            other.effect("e", self.endless(101))
        self.assertEqual(caught.exception.cells, ("a",))
        self.assertEqual((cell.value, len(other)), (101, 101))

    def test_what_is_due_stays_due(self):
        with self.assertRaises(TooLong):
            self.desk.effect("e", self.endless(250))
        self.assertEqual(self.a.value, 101)
        with self.assertRaises(TooLong):
            self.desk.settle()
        self.assertEqual((self.a.value, len(self.desk)), (201, 201))
        self.desk.settle()
        self.assertEqual((self.a.value, len(self.desk)), (250, 251))
        self.desk.settle()
        self.assertEqual(len(self.desk), 251)

    def test_an_effect_is_made_all_the_same(self):
        with self.assertRaises(TooLong):
            self.desk.effect("e", self.endless(150))
        self.assertIn("e", self.desk)
        self.desk.settle()
        self.a.put(140)
        self.assertEqual(list(self.desk.told("e"))[-11:], list(range(140, 151)))

    def test_runs_inside_these_runs_do_not_count(self):
        inner = self.desk.effect("f", lambda: self.b.value)
        work = self.endless(100)
        effect = self.desk.effect("e", lambda: (inner(), inner(), work())[2])
        self.assertEqual((effect.runs, inner.runs), (101, 203))

    def test_several_effects_count_together(self):
        def swing():
            self.b.put(1 - self.a())
            return ()

        def swung():
            self.a.put(self.b())
            return ()

        self.desk.effect("e", swing)
        with self.assertRaises(TooLong) as caught:
            self.desk.effect("f", swung)
        self.assertEqual(caught.exception.cells, ("a", "b"))
        self.assertEqual(len(self.desk), 102)

    def test_the_cells_in_the_order_in_which_they_were_made(self):
        names = ("z", "m", "d", "y")
        cells = [self.desk.cell(name, 0) for name in names]

        def work():
            for cell in (cells[3], cells[0], self.a):
                cell.put(cell() + 1)
            # The one gets the value that it has, the other gets none.
            cells[1].put(0)
            return ()

        with self.assertRaises(TooLong) as caught:
            self.desk.effect("e", work)
        self.assertEqual(caught.exception.cells, ("a", "z", "y"))

    def test_cells_that_change_and_change_back(self):
        work = self.endless(1000)

        def both():
            self.b.put(1)
            self.b.put(0)
            return work()

        with self.assertRaises(TooLong) as caught:
            self.desk.effect("e", both)
        self.assertEqual(caught.exception.cells, ("a", "b"))

    def test_puts_ahead_of_the_settling_do_not_count(self):
        self.desk.effect("e", lambda: self.b() and self.a.put(self.a() + 1) or 0)
        with self.assertRaises(TooLong) as caught:
            self.b.put(1)
        self.assertEqual(caught.exception.cells, ("a",))
        with self.assertRaises(TooLong) as caught:
            self.desk.together(lambda: (self.b.put(3), self.b.put(2)))
        self.assertEqual(caught.exception.cells, ("a",))

    def test_puts_in_runs_inside_count(self):
        inner = self.desk.effect("f", lambda: self.b.put(1 - self.b.value) or 0)
        with self.assertRaises(TooLong) as caught:
            self.desk.effect("e", lambda: (inner(), self.a.put(self.a() + 1))[0])
        self.assertEqual(caught.exception.cells, ("a", "b"))

    def test_all_other_effects_wait(self):
        follower = self.desk.effect("f", lambda: self.b() * 10)

        def work():
            if self.b():
                self.a.put(self.a() + 1)
            return ()

        self.desk.effect("e", work)
        last = self.desk.effect("g", lambda: self.b() * 10)
        with self.assertRaises(TooLong):
            self.b.put(1)
        # The one made before is run, the one behind never gets its turn.
        self.assertEqual((follower.report, last.report), (10, 0))

    def test_it_is_raised_by_whatever_settles(self):
        with self.assertRaises(TooLong):
            self.desk.effect("e", self.endless(10 ** 9))
        for deed in (self.desk.settle, lambda: self.b.put(0), lambda: self.desk.together(lambda: None),
                     lambda: setattr(self.b, "value", 1), lambda: self.desk.effect(f"f{len(self.desk)}",
                                                                                    lambda: 0)):
            with self.assertRaises(TooLong):
                deed()
        with self.assertRaises(TooLong):
            self.desk["b"] = 4
        self.assertEqual(self.b.value, 4)


if __name__ == "__main__":
    unittest.main()
