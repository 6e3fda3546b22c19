"""Point 41: errors that works raise, and what stays of what happened before them."""

import unittest

from trackedreads.desk import Desk
from trackedreads.errors import Busy, Misplaced, TooLong


class Fault(Exception):
    pass


class Stop(BaseException):
    pass


class Case(unittest.TestCase):
    def setUp(self):
        self.desk = Desk()
        self.a = self.desk.cell("a", 0)
        self.b = self.desk.cell("b", 0)
        # While it is set, works that look at it raise.
        self.fails = None

    def fail(self):
        if self.fails is not None:
            raise self.fails

    def failing(self, *parts):
        """A work that reads these one after the other, and fails behind the first."""
        def work():
            got = [parts[0]()]
            self.fail()
            return tuple(got + [part() for part in parts[1:]])
        return work

    def while_failing(self, deed, error=Fault):
        """Does it with works that fail; the error must come out as the same object."""
        self.fails = error()
        with self.assertRaises(error) as caught:
            deed()
        self.assertIs(caught.exception, self.fails)
        self.fails = None


class Effects(Case):
    def test_report_runs_and_log_stay(self):
        effect = self.desk.effect("e", self.failing(self.a, self.b))
        for error in (Fault, Stop, ValueError, KeyError, StopIteration, GeneratorExit):
            self.while_failing(effect, error)
            self.assertEqual((effect.report, effect.runs), ((0, 0), 1))
            self.assertEqual(list(self.desk), [("e", (0, 0))])
        self.assertEqual(effect(), (0, 0))

    def test_what_it_noted_until_then_are_its_notes(self):
        effect = self.desk.effect("e", self.failing(self.a, self.b))
        self.while_failing(effect)
        self.b.put(1)
        self.assertEqual(effect.runs, 1)
        self.a.put(1)
        self.assertEqual((effect.runs, effect.report), (2, (1, 1)))

    def test_one_that_fails_in_a_settling_is_not_due_with_its_new_notes(self):
        effect = self.desk.effect("e", self.failing(self.a, self.b))
        self.while_failing(lambda: self.a.put(1))
        self.assertEqual((self.a.value, effect.report), (1, (0, 0)))
        self.desk.settle()
        self.assertEqual(effect.runs, 1)
        self.a.put(0)
        self.assertEqual((effect.runs, effect.report), (2, (0, 0)))

    def test_one_that_notes_nothing_before_it_fails_is_never_due(self):
        effect = self.desk.effect("e", lambda: (self.fail(), self.a())[1])
        self.while_failing(lambda: self.a.put(1))
        self.a.put(2)
        self.assertEqual(effect.runs, 1)
        self.assertEqual(effect(), 2)
        self.a.put(3)
        self.assertEqual(effect.report, 3)

    def test_one_that_put_what_it_noted_is_due(self):
        def work():
            seen = self.a()
            if seen < 5:
                self.a.put(seen + 1)
            self.fail()
            return seen

        effect = self.desk.effect("e", work)
        self.while_failing(lambda: self.a.put(1))
        self.assertEqual((self.a.value, effect.report), (2, 5))
        self.desk.settle()
        self.assertEqual(list(self.desk.told("e"))[-4:], [2, 3, 4, 5])

    def test_no_further_effect_is_run(self):
        first = self.desk.effect("e", self.failing(self.a))
        second = self.desk.effect("f", self.a)
        third = self.desk.effect("g", self.failing(self.a))
        self.while_failing(lambda: self.a.put(1))
        self.assertEqual((first.runs, second.runs, third.runs), (1, 1, 1))
        # What is due stays due; the first one has noted the new value.
        self.while_failing(lambda: self.b.put(0))
        self.assertEqual((first.runs, second.runs, third.runs), (1, 2, 1))
        self.desk.settle()
        self.assertEqual((first.runs, second.runs, third.runs), (1, 2, 1))

    def test_what_it_did_before_stays(self):
        other = self.desk.effect("f", lambda: 7)

        def work():
            self.a()
            if self.fails is not None:
                self.b.put(5)
                self.desk.cell("c", 6)
                self.desk.kept("p", self.b)()
                self.desk.effect("g", lambda: 8)
                other()
            self.fail()
            return ()

        effect = self.desk.effect("e", work)
        self.while_failing(effect)
        self.assertEqual((self.b.value, self.desk["c"], other.runs, "p" in self.desk), (5, 6, 2, True))
        self.assertEqual(list(self.desk), [("f", 7), ("e", ()), ("g", 8), ("f", 7)])

    def test_nothing_is_settled_behind_it(self):
        follower = self.desk.effect("f", self.b)
        effect = self.desk.effect("e", lambda: (self.b.put(1), self.fail())[0] or 0)
        self.b.put(0)
        self.assertEqual(follower.report, 0)
        self.while_failing(effect)
        self.assertEqual((self.b.value, follower.report), (1, 0))
        self.desk.settle()
        self.assertEqual(follower.report, 1)


class FirstRuns(Case):
    def test_there_is_no_effect_but_its_name(self):
        self.while_failing(lambda: self.desk.effect("e", self.failing(self.a)))
        self.assertIn("e", self.desk)
        self.assertEqual((len(self.desk), list(self.desk.told("e"))), (0, []))
        for make in (self.desk.effect, self.desk.kept):
            with self.assertRaises(ValueError):
                make("e", self.a)
        self.a.put(1)
        self.desk.settle()
        self.assertEqual(len(self.desk), 0)

    def test_what_was_made_inside_stays(self):
        inner = []

        def work():
            inner.append(self.desk.effect("f", self.a))
            self.fail()

        self.while_failing(lambda: self.desk.effect("e", work))
        self.a.put(3)
        self.assertEqual((inner[0].report, list(self.desk)), (3, [("f", 0), ("f", 3)]))

    def test_nothing_is_settled_behind_it(self):
        follower = self.desk.effect("f", self.b)
        self.while_failing(lambda: self.desk.effect("e", lambda: (self.b.put(1), self.fail())))
        self.assertEqual(follower.report, 0)
        self.desk.settle()
        self.assertEqual(follower.report, 1)

    def test_one_is_made_though_the_settling_behind_it_fails(self):
        self.desk.effect("f", self.failing(self.b))
        self.while_failing(lambda: self.desk.effect("e", lambda: self.b.put(self.a() + 1) or 0))
        self.assertEqual(list(self.desk), [("f", (0,)), ("e", 0)])
        self.a.put(4)
        self.assertEqual(list(self.desk)[2:], [("e", 0), ("f", (5,))])

    def test_the_maker_goes_on(self):
        def work():
            try:
                self.desk.effect(f"f{self.b.value}", self.failing(self.a))
            except Fault:
                pass
            return (self.b(), "f0" in self.desk)

        self.fails = Fault()
        effect = self.desk.effect("e", work)
        self.assertEqual(effect.report, (0, True))
        # What the inner run read is not noted by the outer one.
        self.a.put(1)
        self.assertEqual(effect.runs, 1)
        self.b.put(1)
        self.assertEqual(effect.runs, 2)


class KeptAnswers(Case):
    def test_one_whose_work_raised_has_no_kept_value(self):
        kept = self.desk.kept("p", self.failing(self.a))
        self.while_failing(kept)
        self.assertEqual((kept.held, kept.runs), (None, 0))
        self.assertEqual((kept(), kept.held, kept.runs), ((0,), (0,), 1))
        self.a.put(1)
        self.assertEqual(kept.held, (0,))
        self.while_failing(kept)
        self.assertEqual((kept.held, kept.runs), (None, 1))
        # It is run again though the noted value is back.
        self.a.put(0)
        self.assertEqual((kept(), kept.runs), ((0,), 2))

    def test_one_that_was_only_checked_stays_as_it_was(self):
        low = self.desk.kept("p", self.failing(self.a))
        high = self.desk.kept("q", low)
        self.assertEqual(high(), (0,))
        self.a.put(1)
        self.while_failing(high)
        self.assertEqual((low.held, high.held, high.runs), (None, (0,), 1))
        self.a.put(0)
        # The noted value is back, so that q is in order.
        self.assertEqual((high(), high.runs, low.runs), ((0,), 1, 2))

    def test_one_that_reads_it_raises_too(self):
        low = self.desk.kept("p", self.failing(self.a))
        high = self.desk.kept("q", lambda: (self.b(), low()))
        self.while_failing(high)
        self.assertEqual((low.held, high.held), (None, None))
        self.assertEqual(high(), (0, (0,)))

    def test_a_read_that_ends_with_an_error_is_not_noted(self):
        low = self.desk.kept("p", self.failing(self.a))

        def work():
            try:
                return low()
            except Fault:
                return self.b()

        high = self.desk.kept("q", work)
        self.fails = Fault()
        effect = self.desk.effect("e", work)
        self.assertEqual((high(), effect.report), (0, 0))
        self.fails = None
        # Both have noted b alone.
        self.a.put(3)
        self.assertEqual((high(), effect.report), (0, 0))
        self.b.put(1)
        self.assertEqual((high(), effect.report), ((3,), (3,)))

    def test_in_the_checks_of_a_settling(self):
        kept = self.desk.kept("p", self.failing(self.a))
        first = self.desk.effect("e", self.a)
        second = self.desk.effect("f", kept)
        self.while_failing(lambda: self.a.put(1))
        # All effects are checked ahead of the first run.
        self.assertEqual((first.runs, second.runs, kept.held), (1, 1, None))
        self.desk.settle()
        self.assertEqual((first.report, second.report, kept.runs), (1, (1,), 2))


class WhatIsLeft(Case):
    def test_runs(self):
        effect = self.desk.effect("e", self.failing(self.a))
        self.while_failing(effect)
        # No run is under way: puts settle, and nothing is noted or busy.
        follower = self.desk.effect("f", self.b)
        self.b.put(1)
        self.assertEqual((follower.report, effect()), (1, (0,)))

    def test_runs_in_runs(self):
        inner = self.desk.effect("e", self.failing(self.a))
        kept = self.desk.kept("p", self.failing(self.b))
        outer = self.desk.effect("f", lambda: (self.b(), kept(), inner())[0])
        for _ in range(2):
            self.while_failing(outer)
            self.while_failing(inner)
            self.while_failing(lambda: self.desk.together(outer))
        self.b.put(1)
        self.assertEqual((outer.report, inner.runs, kept.held), (1, 3, (1,)))

    def test_batches(self):
        effect = self.desk.effect("e", self.a)

        def inner():
            self.a.put(1)
            self.fail()

        def outer():
            self.desk.together(inner)

        self.while_failing(lambda: self.desk.together(outer))
        self.assertEqual((self.a.value, effect.report), (1, 0))
        # No batch is open.
        self.a.put(2)
        self.assertEqual(effect.report, 2)

    def test_a_batch_inside_that_is_caught(self):
        effect = self.desk.effect("e", self.a)

        def inner():
            self.a.put(1)
            raise Fault()

        def outer():
            with self.assertRaises(Fault):
                self.desk.together(inner)
            # The outer batch is still open.
            self.a.put(2)
            return effect.runs

        self.assertEqual(self.desk.together(outer), 1)
        self.assertEqual((effect.report, effect.runs), (2, 2))

    def test_a_batch_outside_is_not_settled(self):
        effect = self.desk.effect("e", self.a)
        self.while_failing(lambda: self.desk.together(lambda: (self.a.put(1), self.fail())))
        self.assertEqual(effect.runs, 1)
        self.desk.settle()
        self.assertEqual(effect.runs, 2)

    def test_quiet_calls(self):
        def quiet():
            self.a()
            raise Fault()

        def work():
            with self.assertRaises(Fault):
                self.desk.quietly(lambda: self.desk.quietly(quiet))
            return self.b()

        effect = self.desk.effect("e", work)
        self.a.put(1)
        self.assertEqual(effect.runs, 1)
        # No quiet call is open behind the error.
        self.b.put(1)
        self.assertEqual(effect.runs, 2)

    def test_a_quiet_call_inside_a_quiet_call(self):
        def work():
            def outer():
                with self.assertRaises(Fault):
                    self.desk.quietly(self.raising)
                return self.a()
            return (self.desk.quietly(outer), self.b())

        effect = self.desk.effect("e", work)
        self.a.put(1)
        self.assertEqual(effect.runs, 1)
        self.b.put(1)
        self.assertEqual(effect.runs, 2)

    def raising(self):
        raise Fault()

    def test_a_quiet_call_around_a_run_that_raises(self):
        inner = self.desk.effect("e", self.failing(self.a))

        def work():
            with self.assertRaises(Fault):
                self.desk.quietly(inner)
            return self.b()

        self.fails = Fault()
        outer = self.desk.effect("f", work)
        self.fails = None
        inner()
        self.a.put(1)
        self.assertEqual((inner.runs, outer.runs), (3, 1))

    def test_from_the_innermost_of_everything(self):
        effect = self.desk.effect("e", self.a)
        kept = self.desk.kept("p", lambda: (self.b(), self.desk.quietly(self.failing(self.a))))

        def work():
            return self.desk.quietly(lambda: self.desk.together(lambda: self.desk.quietly(kept)))

        outer = self.desk.effect("f", work)
        for _ in range(2):
            self.while_failing(lambda: self.desk.together(
                lambda: (self.b.put(self.b.value + 1), self.a.put(self.a.value + 1), outer())))
            self.assertIsNone(kept.held)
            self.desk.settle()
            self.assertEqual(effect.report, self.a.value)
            self.assertEqual(outer(), (self.b.value, (self.a.value,)))


class Caught(Case):
    def test_by_the_work_of_an_effect(self):
        inner = self.desk.effect("e", self.failing(self.a))

        def work():
            try:
                inner()
            except Fault:
                return (self.b(), "caught")
            return (self.b(), "well")

        outer = self.desk.effect("f", work)
        self.assertEqual(outer.report, (0, "well"))
        self.fails = Fault()
        self.b.put(1)
        self.assertEqual((outer.report, inner.runs), ((1, "caught"), 2))
        # The inner one has noted a, and is due when it changes.
        self.fails = None
        self.a.put(1)
        self.assertEqual((inner.report, outer.runs), ((1,), 2))

    def test_by_the_caller_of_a_put(self):
        effect = self.desk.effect("e", self.failing(self.a, self.b))
        self.fails = Fault()
        for value in (1, 2, 3):
            with self.assertRaises(Fault):
                self.a.put(value)
        self.fails = None
        self.desk.settle()
        self.assertEqual((effect.report, self.a.value), ((0, 0), 3))
        self.a.put(4)
        self.assertEqual(effect.report, (4, 0))

    def test_misplaced_ones(self):
        def work():
            try:
                self.a.put(5)
            except Misplaced as why:
                return (why.name, self.b())

        kept = self.desk.kept("p", work)
        effect = self.desk.effect("e", kept)
        self.assertEqual(effect.report, ("p", 0))
        self.b.put(1)
        self.assertEqual((effect.report, self.a.value), (("p", 1), 0))

    def test_busy_ones(self):
        made = []

        def work():
            seen = self.a()
            try:
                return (seen, made[0]()) if made else ()
            except Busy as why:
                return (seen, why.name)

        made.append(self.desk.effect("e", work))
        self.a.put(1)
        self.assertEqual(made[0].report, (1, "e"))
        self.assertEqual(made[0](), (1, "e"))
        self.assertEqual(made[0].runs, 3)

    def test_too_long_ones(self):
        other = Desk()
        cell = other.cell("x", 0)

        def work():
            try:
                other.effect("e", lambda: cell.put(cell() + 1) or 0)
            except TooLong as why:
                return why.cells
            return ()

        effect = self.desk.effect("f", work)
        self.assertEqual((effect.report, cell.value), (("x",), 101))


if __name__ == "__main__":
    unittest.main()
