"""Points 14 to 17: starts, rounds and picks, and settlings without end."""

import unittest

from tests.samples import book_of
from trackedreads.errors import Over, Ring
from trackedreads.play import Play

THREE = ("cell a = 0/cell b = 0/effect e/tell a/end/effect f/tell a/end/effect g/tell a/tell b/end/"
         "handler h x/set a = x/end/handler k x/set b = x/end/handler both x/set b = x/set a = x/end")
# As long as a is 1 or 2 it goes from one to the other, unless f gets in between.
TURNS = ("cell a = 0/cell b = 0/effect e/if a == 1/set a = 2/else/if a == 2/set a = 1/end/end/end/"
         "effect f/if a == 1/set a = 0/end/end/handler h x/set b = x/set a = x/set b = a/end")


def order_of(told):
    return "".join(name for name, _ in told)


def ring_of(text, *event):
    """What Ring tells of the start, or of a call."""
    try:
        play = Play(book_of(text))
        play.call(*event)
    except Ring as why:
        return (why.effects, why.cells)
    return None


class Starts(unittest.TestCase):
    def test_all_effects_are_run_once_in_order(self):
        play = Play(book_of(THREE))
        self.assertEqual(list(play.reports()), [("e", (0,)), ("f", (0,)), ("g", (0, 0))])
        self.assertEqual(play.choices, ())

    def test_also_those_that_note_nothing_or_are_not_due(self):
        play = Play(book_of("cell a = 5/effect e/end/effect f/tell peek a/end"))
        self.assertEqual(list(play.reports()), [("e", ()), ("f", (5,))])

    def test_then_there_is_a_settling(self):
        play = Play(book_of("cell a = 5/cell b = 6/effect e/tell a/end/effect f/set a = b/end"))
        self.assertEqual(list(play.reports()), [("e", (5,)), ("f", ()), ("e", (6,))])
        self.assertEqual(play.choices, ((0, 1),))
        self.assertEqual(play.present, (6, 6))

    def test_a_later_effect_sees_what_an_earlier_one_has_set(self):
        play = Play(book_of("cell a = 5/cell b = 6/effect f/set a = b/end/effect e/tell a/end"))
        self.assertEqual(list(play.reports()), [("f", ()), ("e", (6,))])
        self.assertEqual(play.choices, ())

    def test_its_picks_are_for_the_settling(self):
        text = "cell a = 5/cell b = 6/effect e/tell a/end/effect f/tell a/end/effect g/set a = b/end"
        for picks, order in (((), "efgef"), ((0,), "efgef"), ((1,), "efgfe"), ((3, 7), "efgfe")):
            play = Play(book_of(text), picks=picks)
            self.assertEqual(order_of(play.reports()), order)


class Picks(unittest.TestCase):
    def order(self, picks, name="h"):
        return order_of(Play(book_of(THREE)).call(name, 1, picks=picks))

    def test_without_picks_the_first_due_effect_is_run(self):
        self.assertEqual(self.order(()), "efg")

    def test_each_run_takes_the_next_pick(self):
        for picks, order in (((1,), "feg"), ((2,), "gef"), ((2, 1), "gfe"), ((0, 1), "egf"),
                             ((1, 1, 0), "fge"), ((2, 1, 5), "gfe")):
            self.assertEqual(self.order(picks), order)

    def test_picks_are_taken_modulo_the_number_due(self):
        for pick in (2, 5, -1, -4, 3 * 10 ** 59 + 2, -3 * 10 ** 59 - 1):
            self.assertEqual(self.order((pick,)), "gef")
        self.assertEqual(self.order((4, -1)), "fge")

    def test_picks_left_over_mean_nothing(self):
        self.assertEqual(self.order((1, 1, 1, 1, 1, 2, 2)), "fge")
        play = Play(book_of(THREE))
        play.call("h", 1, picks=(0, 0, 0, 2, 2))
        self.assertEqual(order_of(play.call("h", 2)), "efg")

    def test_a_round_with_one_due_effect_takes_a_pick_too(self):
        self.assertEqual(self.order((1,), "both"), "gefg")
        self.assertEqual(self.order((7, 2), "both"), "ggef")

    def test_choices_tell_the_index_and_how_many_were_due(self):
        play = Play(book_of(THREE))
        play.call("h", 1)
        self.assertEqual(play.choices, ((0, 3), (0, 2), (0, 1)))
        play.call("h", 2, picks=(-1, 5, 8))
        self.assertEqual(play.choices, ((2, 3), (1, 2), (0, 1)))
        play.call("both", 3, picks=(1, 1))
        self.assertEqual(play.choices, ((0, 1), (1, 3), (0, 2), (0, 1)))
        play.call("h", 3)
        self.assertEqual(play.choices, ())


class Rounds(unittest.TestCase):
    def test_all_effects_are_checked_also_behind_one_that_is_due(self):
        text = ("cell a = 0/cell b = 5/kept k/note a/give peek b/end/effect e/set b = a/end/"
                "effect f/note k/end/handler h x/set a = x/end")
        play = Play(book_of(text))
        play.call("h", 9)
        # k is worked out by the check of f, before e sets b.
        self.assertEqual(play.state()[1], ((0, (("a", 9),)),))
        self.assertEqual(play.present, (9, 9))

    def test_an_effect_that_sets_what_it_reads_is_due(self):
        text = "cell a = 0/effect e/if a == 1/set a = 2/end/tell a/end/handler h x/set a = x/end"
        play = Play(book_of(text))
        self.assertEqual(play.call("h", 1), [("e", (2,)), ("e", (2,))])
        self.assertEqual(play.state(), ((2,), (), (((2,), (("a", 2),), None),)))

    def test_an_effect_that_sets_back_what_it_reads_is_not_due(self):
        text = "cell a = 0/effect e/let x = a/set a = 1/set a = x/end"
        self.assertEqual(Play(book_of(text)).choices, ())

    def test_effects_are_due_by_the_notes_of_their_last_run_alone(self):
        text = ("cell a = 0/cell b = 0/effect e/if a == 0/tell b/end/end/"
                "handler h x/set a = x/end/handler k x/set b = x/end")
        play = Play(book_of(text))
        self.assertEqual(play.call("k", 4), [("e", (4,))])
        self.assertEqual(play.call("h", 4), [("e", ())])
        self.assertEqual(play.call("k", 5), [])
        self.assertEqual(play.call("h", 0), [("e", (5,))])

    def test_a_cell_that_is_back_makes_nothing_due(self):
        text = "cell a = 0/effect e/note a/end/handler h x/batch/set a = x/set a = 0/end/end"
        self.assertEqual(Play(book_of(text)).call("h", 8), [])


class Endless(unittest.TestCase):
    def test_the_effects_and_cells_of_the_ring(self):
        self.assertEqual(
            ring_of("cell a = 0/effect e/if a == 0/set a = 1/else/set a = 0/end/end"),
            (("e", "e"), ("a",)))
        self.assertEqual(ring_of("cell a = 0/effect e/set a = 0/note a/set a = 1/end"),
                         (("e",), ("a",)))
        self.assertIsNone(ring_of("cell a = 0/effect e/note a/set a = 1/end/handler h/end", "h"))

    def test_effects_that_disturb_each_other(self):
        text = "cell a = 0/cell b = 0/effect e/note b/set a = 0/end/effect f/note a/set b = 1/end"
        self.assertIsNone(ring_of(text + "/handler h/end", "h"))
        self.assertEqual(
            ring_of("cell a = 0/cell b = 0/effect e/set a = b/end/effect f/if a == 0/set b = 1/else/"
                    "set b = 0/end/end"),
            (("e", "f", "e", "f"), ("a", "b")))

    def test_runs_ahead_of_the_ring_do_not_count(self):
        text = ("cell a = 0/cell b = 0/cell c = 0/effect e/if a == 3/set c = 3/set a = 1/else/"
                "if a == 1/set a = 2/else/if a == 2/set a = 1/end/end/end/end/effect f/note c/end/"
                "handler h x/set a = x/end")
        # e, then e and f in turns until only e is due.
        self.assertEqual(ring_of(text, "h", 3), (("e", "e"), ("a",)))

    def test_cells_are_those_that_got_another_value(self):
        turning = "if a == 0/set a = 1/else/set a = 0/end/"
        head = "cell c = 0/cell b = 0/cell a = 0/effect e/"
        self.assertEqual(ring_of(head + turning + "set b = 0/end")[1], ("a",))
        self.assertEqual(ring_of(head + turning + "set b = 1/set b = 0/end")[1], ("b", "a"))
        self.assertEqual(ring_of(head + turning + "set c = a/set b = c/end")[1], ("c", "b", "a"))

    def test_no_ring_while_some_cell_differs(self):
        text = ("cell a = 0/cell b = 0/effect e/if a == 1/set a = 2/else/if a == 2/"
                "if b == 0/set b = 1/set a = 1/end/end/end/end/handler h x/set a = x/end")
        play = Play(book_of(text))
        play.call("h", 1)
        self.assertEqual(play.present, (2, 1))
        self.assertEqual(len(play.choices), 4)

    def test_waits_and_what_was_told_are_compared_too(self):
        text = "cell a = 0/effect e/let x = a/tell 7/if a == 0/set a = 1/else/set a = 0/end/wait/end"
        self.assertEqual(ring_of(text), (("e", "e"), ("a",)))

    def test_picks_can_make_a_ring_or_leave_it(self):
        play = Play(book_of(TURNS))
        self.assertEqual(play.call("h", 1, picks=(1,)), [("f", ()), ("f", ())])
        with self.assertRaises(Ring) as caught:
            play.call("h", 1, picks=(0, 0))
        self.assertEqual(caught.exception.effects, ("e", "e"))
        self.assertEqual(caught.exception.cells, ("a",))
        self.assertEqual(play.choices, ((0, 2), (0, 2), (0, 2)))

    def test_picks_do_not_keep_a_settling_going(self):
        play = Play(book_of(TURNS))
        with self.assertRaises(Ring):
            play.call("h", 1, picks=(0,) * 500 + (1,))
        self.assertEqual(len(play.choices), 3)

    def test_reports_are_not_compared(self):
        # The first report is another one than those of the same runs later.
        text = ("cell a = 0/cell b = 0/effect e/tell peek b/set b = a/if a == 0/set a = 1/else/"
                "set a = 0/end/end")
        self.assertEqual(ring_of(text), (("e", "e"), ("a", "b")))

    def test_long_rings(self):
        # A number of three digits from 0 to 3, which goes up without end.
        text = ("cell a = 0/cell b = 0/cell c = 0/effect e/let n = 0/"
                "if a == 0/let n = 1/end/if a == 1/let n = 2/end/if a == 2/let n = 3/end/set a = n/"
                "if n == 0/let n = 0/if b == 0/let n = 1/end/if b == 1/let n = 2/end/"
                "if b == 2/let n = 3/end/set b = n/"
                "if n == 0/let n = 0/if c == 0/let n = 1/end/if c == 1/let n = 2/end/"
                "if c == 2/let n = 3/end/set c = n/end/end/end")
        effects, cells = ring_of(text)
        self.assertEqual(effects, ("e",) * 64)
        self.assertEqual(cells, ("a", "b", "c"))


class BehindRing(unittest.TestCase):
    def setUp(self):
        self.play = Play(book_of(TURNS + "/handler none/end"))
        self.play.call("none")
        with self.assertRaises(Ring):
            self.play.call("h", 2)

    def test_what_can_still_be_asked(self):
        play = self.play
        self.assertIs(play.is_over, True)
        # The call ended in the settling behind its second line: a was 2, 1, 2, 1.
        self.assertEqual(play.present, (1, 2))
        self.assertEqual((play["a"], play["b"]), (1, 2))
        self.assertEqual(play.faults, [("ends", None)])
        self.assertEqual(play.choices, ((0, 2), (0, 2), (0, 2)))
        self.assertEqual(play.waiting, ())
        self.assertEqual(len(play), 3)
        self.assertEqual(order_of(play.reports()), "efeee")

    def test_what_raises_over(self):
        for asked in (lambda: self.play.call("h", 1), lambda: self.play.call("none"),
                      lambda: self.play.call("zzz"), lambda: self.play.call("h"),
                      lambda: self.play.call(None), lambda: self.play.resume("e"),
                      lambda: self.play.resume("zzz"), lambda: self.play.state(),
                      lambda: self.play.do(("call", "none", (), ())),
                      lambda: self.play.do(("resume", "e", ()))):
            with self.assertRaises(Over):
                asked()
        self.test_what_can_still_be_asked()

    def test_an_endless_call_does_not_go_on(self):
        text = TURNS.replace("set b = a", "set b = 3")
        play = Play(book_of(text))
        with self.assertRaises(Ring):
            play.call("h", 2)
        self.assertEqual(play["b"], 2)


if __name__ == "__main__":
    unittest.main()
