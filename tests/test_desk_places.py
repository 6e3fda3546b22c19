"""Point 40: what may not be done in the work of a kept answer, and what is running already."""

import unittest

from trackedreads.desk import Desk
from trackedreads.errors import Busy, Misplaced


class Case(unittest.TestCase):
    def setUp(self):
        self.desk = Desk()
        self.a = self.desk.cell("a", 0)
        self.low = self.desk.kept("low", self.a)
        self.e = self.desk.effect("e", lambda: 0)

    def add(self):
        cell = self.a
        cell += 1

    def set_item(self, name="a"):
        self.desk[name] = 5

    def set_value(self):
        self.a.value = 5

    def deeds(self):
        """All that is misplaced, with names in use, with no names of cells and plainly."""
        return {
            "put": lambda: self.a.put(5), "put the same": lambda: self.a.put(0),
            "value": self.set_value, "item": self.set_item,
            "item of no cell": lambda: self.set_item("zz"), "item of an answer": lambda: self.set_item("p"),
            "item of no string": lambda: self.set_item(None), "add": self.add, "settle": self.desk.settle,
            "together": lambda: self.desk.together(lambda: 0), "effect": self.e,
            "make a cell": lambda: self.desk.cell("n", 0), "make an answer": lambda: self.desk.kept("m", self.a),
            "make an effect": lambda: self.desk.effect("o", lambda: 0),
            "a cell that is": lambda: self.desk.cell("a", 0), "an answer that is": lambda: self.desk.kept("p", 0),
            "an effect that is": lambda: self.desk.effect("e", lambda: 0),
        }


class InTheWorkOfAnAnswer(Case):
    def check(self, around, name="p"):
        """Each deed in the work of p raises Misplaced, and nothing happens."""
        for word, deed in self.deeds().items():
            with self.subTest(deed=word):
                self.setUp()
                deed = self.deeds()[word]
                log = list(self.desk)

                def work():
                    with self.assertRaises(Misplaced) as caught:
                        around(self, deed)
                    self.assertEqual(caught.exception.name, name)
                    return 7

                kept = self.desk.kept("p", work)
                self.assertEqual(self.read(kept), 7)
                self.assertEqual((kept.runs, self.a.value), (1, 0))
                self.assertEqual(list(self.desk)[:1], log)
                self.assertEqual([name for name in "mno" if name in self.desk], [])
                self.desk.settle()

    read = staticmethod(lambda kept: kept())

    def test_plainly(self):
        self.check(lambda case, deed: deed())

    def test_in_a_quiet_call(self):
        self.check(lambda case, deed: case.desk.quietly(deed))

    def test_in_an_answer_inside(self):
        # The name is that of the innermost one.
        for word in self.deeds():
            self.setUp()
            deed = self.deeds()[word]
            inner = self.desk.kept("q", lambda: deed() or 0)
            outer = self.desk.kept("p", inner)
            with self.assertRaises(Misplaced) as caught:
                outer()
            self.assertEqual(caught.exception.name, "q")
            self.assertEqual((inner.runs, outer.runs, inner.held, outer.held), (0, 0, None, None))

    def test_behind_an_answer_inside(self):
        self.check(lambda case, deed: (case.low(), deed()))


class InARunAround(InTheWorkOfAnAnswer):
    def read(self, kept):
        return self.desk.effect("f", kept).report


class InABatchAround(InTheWorkOfAnAnswer):
    def read(self, kept):
        return self.desk.together(kept)


class InAQuietCallAround(InTheWorkOfAnAnswer):
    def read(self, kept):
        return self.desk.quietly(kept)


class InACheck(Case):
    def test_the_settling_ends_with_the_error(self):
        def work():
            if self.a():
                self.a.put(9)
            return 0

        kept = self.desk.kept("p", work)
        effect = self.desk.effect("f", kept)
        with self.assertRaises(Misplaced) as caught:
            self.a.put(1)
        self.assertEqual(caught.exception.name, "p")
        self.assertEqual((self.a.value, effect.runs, kept.held), (1, 1, None))


class WhatIsAllowed(Case):
    def test_in_the_work_of_an_answer(self):
        def work():
            low = self.low()
            self.assertEqual(self.desk.quietly(self.low), low)
            self.assertEqual((self.a(), self.a.value, self.desk["a"], self.low.held), (low,) * 4)
            self.assertIn("p", self.desk)
            self.assertEqual((self.e.report, self.e.runs, self.e.name), (0, 1, "e"))
            self.assertEqual((len(self.desk), list(self.desk)), (1, [("e", 0)]))
            self.assertEqual(list(self.desk.told("e")), [0])
            with self.assertRaises(KeyError):
                {}["a"]
            return low + 1

        kept = self.desk.kept("p", work)
        self.assertEqual(kept(), 1)
        self.a.put(5)
        self.assertEqual(kept(), 6)

    def test_behind_the_run(self):
        self.assertEqual(self.low(), 0)
        for word, deed in self.deeds().items():
            if "item of" not in word and "that is" not in word:
                deed()

    def test_in_an_effect_that_reads_an_answer(self):
        def work():
            seen = self.low()
            self.a.put(seen + 1)
            self.desk.together(lambda: self.a.put(seen + 2))
            self.desk.settle()
            self.e()
            if "n" not in self.desk:
                self.desk.cell("n", 0)
                self.desk.kept("m", self.a)
                self.desk.effect("o", lambda: 0)
            return self.low() if seen < 4 else self.a.put(4) or 4

        effect = self.desk.effect("f", work)
        self.assertEqual(list(self.desk.told("f")), [2, 4, 4])
        self.assertEqual(effect.report, 4)

    def test_in_an_effect_of_which_an_answer_was_told(self):
        # An effect may not be called in an answer's work, so no put of it is misplaced.
        kept = self.desk.kept("p", lambda: self.e())
        with self.assertRaises(Misplaced):
            kept()
        self.assertEqual(self.e.runs, 1)


class Rings(Case):
    def test_of_one_answer(self):
        kept = self.desk.kept("p", lambda: kept())
        with self.assertRaises(Busy) as caught:
            kept()
        self.assertEqual(caught.exception.name, "p")
        self.assertEqual((kept.runs, kept.held), (0, None))

    def test_of_several_answers(self):
        p = self.desk.kept("p", lambda: q())
        q = self.desk.kept("q", lambda: r())
        r = self.desk.kept("r", lambda: p())
        for first in (p, q, r):
            with self.assertRaises(Busy) as caught:
                first()
            self.assertEqual(caught.exception.name, first.name)
            with self.assertRaises(Busy) as caught:
                self.desk.quietly(first)
            self.assertEqual(caught.exception.name, first.name)

    def test_that_a_work_catches(self):
        def work():
            try:
                return kept()
            except Busy as why:
                return why.name

        kept = self.desk.kept("p", work)
        self.assertEqual((kept(), kept.runs), ("p", 1))

    def test_in_a_check(self):
        # The answer q notes p; while p is run, reading q checks p.
        def work():
            if self.a():
                try:
                    return q()
                except Busy as why:
                    return why.name
            return "start"

        p = self.desk.kept("p", work)
        q = self.desk.kept("q", p)
        self.assertEqual(q(), "start")
        self.a.put(1)
        self.assertEqual(p(), "p")
        # It was only checked, and stayed as it was.
        self.assertEqual((q.held, q.runs), ("start", 1))
        self.assertEqual((q(), q.runs), ("p", 2))

    def test_what_may_be_asked_of_an_answer_that_is_run(self):
        def work():
            return (str(kept.held), kept.runs, kept.name, "p" in self.desk)

        kept = self.desk.kept("p", work)
        self.assertEqual(kept(), ("None", 0, "p", True))

    def test_of_effects(self):
        made = []

        def work():
            if made:
                made[-1]()
            return 0

        e = self.desk.effect("f", work)
        made.append(e)
        with self.assertRaises(Busy) as caught:
            e()
        self.assertEqual(caught.exception.name, "f")
        self.assertEqual((e.runs, len(self.desk)), (1, 2))
        made.append(self.desk.effect("g", lambda: made[0]() if len(made) > 1 else 0))
        for effect in made:
            with self.assertRaises(Busy) as caught:
                effect()
            self.assertEqual(caught.exception.name, effect.name)
        with self.assertRaises(Busy):
            self.desk.together(e)
        with self.assertRaises(Busy):
            self.desk.quietly(e)

    def test_an_effect_in_its_settled_run(self):
        made = []

        def work():
            if self.a():
                made[0]()
            return 0

        made.append(self.desk.effect("f", work))
        with self.assertRaises(Busy):
            self.a.put(1)
        self.assertEqual(made[0].runs, 1)

    def test_misplaced_comes_ahead_of_busy(self):
        # The effect is run, and reads an answer whose work calls it.
        made = []
        kept = self.desk.kept("p", lambda: made[0]() if made else 0)
        made.append(self.desk.effect("f", lambda: (self.a(), kept())[1] if made else 0))
        with self.assertRaises(Misplaced) as caught:
            made[0]()
        self.assertEqual(caught.exception.name, "p")

    def test_effects_inside_one_another_that_are_no_ring(self):
        inner = self.desk.effect("f", lambda: 1)
        outer = self.desk.effect("g", lambda: inner() + inner())
        self.assertEqual((outer(), inner.runs), (2, 5))

    def test_an_answer_that_is_run_on_another_desk(self):
        other = Desk()
        far = other.kept("p", lambda: 5)
        kept = self.desk.kept("p", far)
        self.assertEqual(kept(), 5)
        # The same work may be on two desks at once.
        work = {}
        work["one"] = self.desk.kept("q", lambda: work["other"]())
        work["other"] = other.kept("q", lambda: 9)
        self.assertEqual(work["one"](), 9)


if __name__ == "__main__":
    unittest.main()
