"""Point 42 on desks, and all that can be asked of one at each moment."""

import unittest

from trackedreads.desk import Desk


class Case(unittest.TestCase):
    def setUp(self):
        self.desk = Desk()
        self.a = self.desk.cell("a", 0)


class Logs(Case):
    def test_of_an_empty_desk(self):
        desk = Desk()
        self.assertEqual((len(desk), list(desk), list(desk.told("e"))), (0, [], []))

    def test_pairs_in_the_order_in_which_the_runs_ended(self):
        inner = self.desk.effect("f", lambda: (1,))
        self.desk.effect("e", lambda: inner() + (self.a(),))
        self.assertEqual(list(self.desk), [("f", (1,)), ("f", (1,)), ("e", (1, 0))])
        self.a.put(2)
        self.assertEqual(list(self.desk)[3:], [("f", (1,)), ("e", (1, 2))])
        self.assertEqual(len(self.desk), 5)

    def test_of_an_effect_that_is_made_in_a_run(self):
        self.desk.effect("e", lambda: (self.desk.effect("f", lambda: 1), 2)[1])
        self.assertEqual(list(self.desk), [("f", 1), ("e", 2)])

    def test_answers_are_not_told(self):
        self.desk.kept("p", self.a)()
        self.assertEqual(len(self.desk), 0)

    def test_reports_of_one_effect(self):
        self.desk.effect("e", self.a)
        self.desk.effect("f", lambda: ("f", self.a()))
        self.a.put(1)
        self.assertEqual(list(self.desk.told("e")), [0, 1])
        self.assertEqual(list(self.desk.told("f")), [("f", 0), ("f", 1)])

    def test_reports_of_another_name(self):
        self.desk.effect("e", self.a)
        self.desk.kept("p", self.a)
        for name in ("a", "p", "zz", "", None, True, 0, ["e"], ("e",), ("e", 0), []):
            self.assertEqual(list(self.desk.told(name)), [])

    def test_a_generator(self):
        self.desk.effect("e", self.a)
        reports = self.desk.told("e")
        self.assertEqual(next(reports), 0)
        self.assertEqual(list(reports), [])

    def test_what_is_returned_is_new(self):
        self.desk.effect("e", self.a)
        for told in (list(self.desk), list(self.desk.told("e"))):
            told.append(None)
            told.clear()
        self.assertEqual((len(self.desk), list(self.desk)), (1, [("e", 0)]))

    def test_iterating_in_all_ways(self):
        self.desk.effect("e", self.a)
        self.a.put(5)
        self.assertEqual([name for name, _ in self.desk], ["e", "e"])
        first, second = self.desk
        self.assertEqual((first, second), (("e", 0), ("e", 5)))
        self.assertEqual(dict(self.desk), {"e": 5})


class Moments(Case):
    def asked(self):
        """What there is to ask of the effect e and the answer p."""
        effect, kept = self.things
        return (effect and effect.report, effect and effect.runs, len(self.desk), list(self.desk),
                list(self.desk.told("e")), kept.held, kept.runs,
                [name for name in ("a", "p", "e", "f") if name in self.desk])

    def setUp(self):
        super().setUp()
        self.things = [None, self.desk.kept("p", lambda: self.a() * 10)]
        self.moments = []

        def work():
            self.moments.append(self.asked())
            told = self.things[1]()
            self.moments.append(self.asked())
            return told

        self.things[0] = self.desk.effect("e", work)

    def test_inside_the_first_run(self):
        self.assertEqual(self.moments, [(None, None, 0, [], [], None, 0, ["a", "p", "e"]),
                                        (None, None, 0, [], [], 0, 1, ["a", "p", "e"])])

    def test_behind_it_and_inside_a_later_one(self):
        self.assertEqual(self.asked(), (0, 1, 1, [("e", 0)], [0], 0, 1, ["a", "p", "e"]))
        self.moments.clear()
        self.a.put(1)
        # The check ahead of the run has worked the answer out.
        inside = (0, 1, 1, [("e", 0)], [0], 10, 2, ["a", "p", "e"])
        self.assertEqual(self.moments, [inside, inside])
        self.assertEqual(self.asked(),
                         (10, 2, 2, [("e", 0), ("e", 10)], [0, 10], 10, 2, ["a", "p", "e"]))

    def test_in_a_batch(self):
        def work():
            self.a.put(2)
            held = self.asked()
            self.things[1]()
            return held, self.asked()

        before, behind = self.desk.together(work)
        self.assertEqual(before, (0, 1, 1, [("e", 0)], [0], 0, 1, ["a", "p", "e"]))
        self.assertEqual(behind, (0, 1, 1, [("e", 0)], [0], 20, 2, ["a", "p", "e"]))
        self.assertEqual(self.asked()[:2], (20, 2))

    def test_between_the_runs_of_a_settling(self):
        self.desk.effect("f", lambda: (self.a(), self.moments.append(self.asked()))[0])
        self.moments.clear()
        self.a.put(3)
        self.assertEqual(self.moments[-1], (30, 2, 3, [("e", 0), ("f", 0), ("e", 30)], [0, 30], 30,
                                            2, ["a", "p", "e", "f"]))

    def test_asking_changes_nothing(self):
        self.desk.together(lambda: (self.a.put(4), self.asked(), self.asked()))
        before = self.asked()
        for _ in range(3):
            self.assertEqual(self.asked(), before)
        self.assertEqual(self.things[0].runs, 2)

    def test_while_an_answer_is_run(self):
        kept = self.desk.kept("q", lambda: (self.a(), self.moments.append(kept.held))[0])
        self.moments.clear()
        kept()
        self.a.put(1)
        self.moments.clear()
        self.assertEqual((kept(), self.moments, kept.held, kept.runs), (1, [None], 1, 2))


if __name__ == "__main__":
    unittest.main()
