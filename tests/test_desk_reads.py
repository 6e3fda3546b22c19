"""Points 37, 9, 10 and 12 on desks: what is noted, what is kept, what is in order."""

import unittest

from trackedreads.desk import Desk
from trackedreads.errors import Taken


class Case(unittest.TestCase):
    def setUp(self):
        self.desk = Desk()
        self.a = self.desk.cell("a", 1)
        self.b = self.desk.cell("b", 1)
        self.seen = []

    def runs_when(self, effect, *cells):
        """How often the effect is run when these cells get other values, one by one."""
        before = effect.runs
        for cell in cells:
            cell.put(cell.value + 1)
        return effect.runs - before


class Notes(Case):
    def test_by_calls(self):
        effect = self.desk.effect("e", lambda: self.a() + self.a())
        self.assertEqual(self.runs_when(effect, self.a), 1)
        self.assertEqual(self.runs_when(effect, self.b), 0)

    def test_none_by_value_and_items(self):
        effect = self.desk.effect("e", lambda: (self.a.value, self.desk["b"]))
        self.assertEqual(self.runs_when(effect, self.a, self.b), 0)

    def test_none_by_what_is_kept(self):
        kept = self.desk.kept("p", self.a)
        kept()
        effect = self.desk.effect("e", lambda: kept.held)
        self.assertEqual(self.runs_when(effect, self.a), 0)
        self.assertEqual(kept.runs, 1)

    def test_none_outside_of_runs(self):
        effect = self.desk.effect("e", lambda: 0)
        self.a()
        self.desk.kept("p", self.b)()
        self.assertEqual(self.runs_when(effect, self.a, self.b), 0)

    def test_a_value_beside_a_call(self):
        effect = self.desk.effect("e", lambda: (self.a.value, self.a()))
        self.assertEqual(self.runs_when(effect, self.a), 1)

    def test_the_value_of_the_first_noted_read(self):
        def work():
            seen = self.a()
            if seen < 3:
                self.a.put(seen + 1)
            return (seen, self.a())

        effect = self.desk.effect("e", work)
        # The first read is noted, so that the run makes itself due.
        self.assertEqual(list(self.desk.told("e")), [(1, 2), (2, 3), (3, 3)])
        self.assertEqual(effect.runs, 3)

    def test_a_first_read_behind_an_own_put(self):
        def work():
            self.a.put(5)
            return self.a()

        effect = self.desk.effect("e", work)
        self.assertEqual((effect.runs, effect.report), (1, 5))
        self.a.put(6)
        self.assertEqual((effect.runs, self.a.value), (2, 5))

    def test_of_the_last_run_alone(self):
        effect = self.desk.effect("e", lambda: self.a() and self.b())
        self.a.put(0)
        self.assertEqual(self.runs_when(effect, self.b), 0)
        self.assertEqual(self.runs_when(effect, self.a), 1)
        self.assertEqual(self.runs_when(effect, self.b), 1)

    def test_a_noted_value_that_is_back(self):
        effect = self.desk.effect("e", self.a)

        def work():
            self.a.put(9)
            self.a.put(1)

        self.desk.together(work)
        self.assertEqual(effect.runs, 1)


class QuietCalls(Case):
    def test_reads_inside(self):
        effect = self.desk.effect("e", lambda: (self.desk.quietly(self.a), self.b()))
        self.assertEqual(self.runs_when(effect, self.a), 0)
        self.assertEqual(self.runs_when(effect, self.b), 1)

    def test_reads_before_and_behind(self):
        def work():
            first = self.a()
            self.desk.quietly(lambda: (self.a(), self.b()))
            return first

        effect = self.desk.effect("e", work)
        self.assertEqual(self.runs_when(effect, self.a, self.b), 1)
        other = self.desk.effect("f", lambda: self.desk.quietly(self.a) + self.a())
        self.assertEqual(self.runs_when(other, self.a), 1)

    def test_in_one_another(self):
        def inner():
            self.desk.quietly(self.a)
            # The outer one goes on.
            return self.a()

        effect = self.desk.effect("e", lambda: self.desk.quietly(inner))
        self.assertEqual(self.runs_when(effect, self.a), 0)

    def test_what_is_returned_and_given(self):
        result = [1]
        for call in (self.desk.quietly, self.desk.together):
            self.assertIs(call(lambda: result), result)
            self.assertIs(call(lambda *given: given[1], 5, result), result)
            self.assertEqual(call(lambda *given: given), ())
            self.assertEqual(call(lambda x, y=3: (x, y), 1), (1, 3))
            self.assertIsNone(call(lambda: None))

    def test_outside_of_runs(self):
        effect = self.desk.effect("e", self.a)

        def work():
            self.a.put(5)
            return effect.report

        # It only calls: the settling is not put off.
        self.assertEqual(self.desk.quietly(work), 5)

    def test_begun_outside_of_the_run(self):
        effect = self.desk.quietly(self.desk.effect, "e", self.a)
        self.assertEqual(self.runs_when(effect, self.a), 1)

    def test_begun_in_a_run_around(self):
        made = []

        def outer():
            if not made:
                made.append(self.desk.quietly(self.desk.effect, "f", self.a))
            return 0

        effect = self.desk.effect("e", outer)
        # What the inner run reads is noted by it, though not by the outer one.
        self.assertEqual(self.runs_when(made[0], self.a), 1)
        self.assertEqual(effect.runs, 1)

    def test_answers_that_are_read_inside(self):
        kept = self.desk.kept("p", self.a)
        effect = self.desk.effect("e", lambda: (self.desk.quietly(kept), self.b()))
        self.assertEqual((kept.runs, kept.held), (1, 1))
        self.assertEqual(self.runs_when(effect, self.a), 0)
        # The notes of the answer are there all the same.
        self.assertEqual(kept(), 2)

    def test_in_the_work_of_an_answer(self):
        kept = self.desk.kept("p", lambda: self.desk.quietly(self.a) + self.b())
        self.assertEqual(kept(), 2)
        self.a.put(7)
        self.assertEqual(kept(), 2)
        self.b.put(2)
        self.assertEqual(kept(), 9)


class KeptAnswers(Case):
    def counted(self, name, work):
        def counting():
            self.seen.append(name)
            return work()
        return self.desk.kept(name, counting)

    def test_nothing_is_run_when_one_is_made(self):
        kept = self.counted("p", self.a)
        self.a.put(2)
        self.desk.settle()
        self.assertEqual((self.seen, kept.runs, kept.held), ([], 0, None))

    def test_in_order_out_of_order_in_order_again(self):
        kept = self.counted("p", self.a)
        self.assertEqual([kept(), kept(), kept.runs, kept.held], [1, 1, 1, 1])
        self.a.put(2)
        # It stays kept until it is read or checked.
        self.assertEqual((kept.held, kept.runs), (1, 1))
        self.a.put(1)
        self.assertEqual([kept(), kept.runs], [1, 1])
        self.a.put(2)
        self.assertEqual([kept(), kept.runs, kept.held], [2, 2, 2])

    def test_without_notes_it_is_always_in_order(self):
        kept = self.counted("p", lambda: self.a.value)
        self.assertEqual(kept(), 1)
        self.a.put(2)
        self.assertEqual((kept(), kept.runs), (1, 1))

    def test_by_the_answers_that_it_notes(self):
        low = self.counted("p", lambda: self.a() // 10)
        high = self.counted("q", lambda: low() + 100)
        self.assertEqual(high(), 100)
        self.a.put(2)
        self.assertEqual(high(), 100)
        self.assertEqual(self.seen, ["q", "p", "p"])
        self.a.put(12)
        self.assertEqual(high(), 101)
        self.assertEqual(self.seen[3:], ["p", "q"])

    def test_the_check_ends_at_the_first_that_differs(self):
        low = self.counted("p", self.b)
        high = self.counted("q", lambda: self.a() and low())
        self.assertEqual(high(), 1)
        self.desk.together(lambda: (self.a.put(0), self.b.put(5)))
        self.assertEqual(high(), 0)
        # The answer p was neither checked nor read.
        self.assertEqual((low.held, low.runs), (1, 1))
        self.assertEqual(self.seen, ["q", "p", "q"])

    def test_what_effects_note(self):
        kept = self.counted("p", lambda: self.a() // 10)
        effect = self.desk.effect("e", lambda: kept() + self.b())
        self.assertEqual(self.runs_when(effect, self.a), 0)
        self.assertEqual(kept.runs, 2)
        self.a.put(10)
        self.assertEqual((effect.report, effect.runs), (2, 2))

    def test_effects_do_not_note_what_it_read(self):
        kept = self.counted("p", lambda: self.a() and 0)
        effect = self.desk.effect("e", kept)
        self.assertEqual(self.runs_when(effect, self.a, self.a), 0)
        self.assertEqual(kept.runs, 3)

    def test_a_check_notes_nothing_for_the_run_under_way(self):
        kept = self.counted("p", lambda: self.a() // 10)
        kept()

        def work():
            return self.desk.quietly(kept)

        effect = self.desk.effect("e", work)
        self.assertEqual(self.runs_when(effect, self.a), 0)

    def test_while_its_work_is_run_it_has_no_kept_value(self):
        held = []

        def work():
            held.append(kept.held)
            return self.a()

        kept = self.desk.kept("p", work)
        kept()
        self.a.put(2)
        held.append(kept.held)
        kept()
        self.assertEqual(held, [None, 1, None])
        self.assertEqual(kept.held, 2)

    def test_a_value_that_is_worked_out_in_a_check_is_kept(self):
        kept = self.counted("p", self.a)
        self.desk.effect("e", lambda: kept() * 0)
        self.a.put(3)
        self.assertEqual((kept.held, self.seen), (3, ["p", "p"]))

    def test_reading_it_in_a_run_sees_the_puts_of_the_run(self):
        kept = self.counted("p", self.a)

        def work():
            before = kept()
            self.a.put(8)
            return (before, kept())

        effect = self.desk.effect("e", work)
        # What was noted first is the value before the put, so that the effect is due.
        self.assertEqual(list(self.desk.told("e")), [(1, 8), (8, 8)])
        self.assertEqual((effect.runs, kept.runs), (2, 2))


class RunsInRuns(Case):
    def test_each_has_its_own_notes(self):
        inner = self.desk.effect("f", self.a)
        outer = self.desk.effect("e", lambda: (self.b(), inner()))
        self.a.put(2)
        self.assertEqual((inner.runs, outer.runs), (3, 1))
        self.b.put(2)
        self.assertEqual((inner.runs, outer.runs), (4, 2))

    def test_what_is_read_behind_the_inner_one(self):
        inner = self.desk.effect("f", self.b)
        outer = self.desk.effect("e", lambda: (inner(), self.a()))
        self.assertEqual(self.runs_when(outer, self.a), 1)
        self.assertEqual(self.runs_when(outer, self.b), 0)

    def test_an_effect_that_is_made_in_a_run(self):
        made = []

        def outer():
            made.append(self.desk.effect(f"f{self.b()}", self.a))
            return ()

        effect = self.desk.effect("e", outer)
        self.assertEqual([thing.name for thing in made], ["f1"])
        self.assertEqual(self.runs_when(effect, self.a), 0)
        self.assertEqual((made[0].runs, made[0].report), (2, 2))
        self.b.put(5)
        self.assertEqual([thing.name for thing in made], ["f1", "f5"])

    def test_the_inner_run_of_an_answer(self):
        low = self.desk.kept("p", self.a)
        high = self.desk.kept("q", lambda: self.desk.quietly(low) + self.b())
        self.assertEqual(high(), 2)
        self.a.put(5)
        self.assertEqual(high(), 2)
        self.assertEqual(low(), 5)

    def test_a_cell_that_is_made_in_a_run(self):
        def work():
            cell = self.desk.cell("c", 7)
            return cell()

        effect = self.desk.effect("e", work)
        self.assertEqual(effect.report, 7)
        # It was noted, so that the work is run again, for which its name is in use.
        with self.assertRaises(Taken):
            self.desk["c"] = 8


if __name__ == "__main__":
    unittest.main()
