"""Points 23 and 24: the faults of an event, and what it means to keep an ask."""

import unittest

from tests.samples import EXAMPLE, book_of
from trackedreads.books import Book
from trackedreads.errors import Ring
from trackedreads.judging import judge
from trackedreads.play import Play, replay_faults

START = ("start", ())
# Told between two sets that belong together.
HALF = ("cell a = 0/cell b = 0/effect e/tell a/tell b/end/"
        "handler h x/set a = x/set b = x/end/handler k x/batch/set a = x/set b = x/end/end")
# A wait in front of what was read already.
LATE = "cell a = 0/effect e/let u = a/wait/tell u/end/handler h x/set a = x/end"


def faults(text, *events):
    """The faults of each event, the start in front."""
    play = Play(book_of(text))
    found = [play.faults]
    for name, *values in events:
        if name == "resume":
            play.resume(*values)
        else:
            play.call(name, *values)
        found.append(play.faults)
    return found


class Whole(unittest.TestCase):
    def test_a_report_in_the_event_that_is_not_true_behind_it(self):
        self.assertEqual(faults(HALF, ("h", 1), ("k", 2)), [[], [("whole", "e")], []])

    def test_a_report_that_is_true_again_behind_the_event(self):
        text = HALF.replace("set b = x/end", "set a = 0/end", 1)
        self.assertEqual(faults(text, ("h", 1)), [[], [("whole", "e")]])

    def test_it_need_not_be_the_last_report(self):
        text = HALF.replace("set b = x/end", "set b = x/set b = 0/end", 1)
        self.assertEqual(faults(text, ("h", 1)), [[], [("whole", "e")]])

    def test_only_reports_told_in_the_event_count(self):
        text = "cell a = 0/effect e/tell peek a/end/handler h x/set a = x/end"
        self.assertEqual(faults(text, ("h", 1), ("h", 0)), [[], [("fresh", "e")], []])

    def test_while_another_effect_waits(self):
        text = HALF.replace("effect e", "effect w/wait/end/effect e")
        self.assertEqual(faults(text, ("h", 1)), [[], [("whole", "e")]])

    def test_at_the_start(self):
        text = "cell a = 0/cell b = 1/effect e/tell a/end/effect f/set a = b/end"
        self.assertEqual(faults(text), [[("whole", "e")]])


class Lean(unittest.TestCase):
    text = ("cell a = 0/effect e/if a == 7/tell 1/else/tell 2/end/end/"
            "handler h x/set a = x/end/handler twice x y/set a = x/set a = y/end")

    def test_the_last_report_told_again(self):
        self.assertEqual(faults(self.text, ("h", 1), ("h", 7), ("h", 7), ("h", 2)),
                         [[], [("lean", "e")], [], [], []])

    def test_across_events_and_within_one(self):
        self.assertEqual(faults(self.text, ("twice", 7, 1)), [[], [("whole", "e")]])
        self.assertEqual(faults(self.text, ("twice", 1, 7)), [[], [("whole", "e"), ("lean", "e")]])
        self.assertEqual(faults(self.text, ("h", 7), ("twice", 1, 2)),
                         [[], [], [("lean", "e")]])

    def test_at_the_start_the_first_report_is_not_lean(self):
        self.assertEqual(faults("cell a = 0/effect e/end/effect f/end"), [[]])
        self.assertEqual(faults("cell a = 0/cell b = 0/effect e/note a/end/effect f/set a = 1/end"),
                         [[("lean", "e")]])

    def test_empty_reports_count(self):
        self.assertEqual(faults("cell a = 0/effect e/note a/end/handler h x/set a = x/end", ("h", 1)),
                         [[], [("lean", "e")]])

    def test_a_report_that_came_with_the_state(self):
        book = book_of(self.text)
        for report, found in (((2,), [("lean", "e")]), ((1,), []), (None, []), ((), []),
                              ((2, 2), [])):
            play = Play(book, state=((5,), (), ((report, (("a", 5),), None),)))
            play.call("h", 6)
            self.assertEqual(play.faults, found)

    def test_a_run_that_was_dropped_told_nothing(self):
        # What was told ahead of the wait and dropped is the same each time.
        text = "cell a = 0/effect e/tell 1/note a/wait/end/handler h x/set a = x/end"
        self.assertEqual(faults(text, ("h", 1), ("h", 2), ("resume", "e"), ("h", 3), ("resume", "e")),
                         [[], [], [], [], [], [("lean", "e")]])

    def test_a_resumed_run(self):
        self.assertEqual(faults(LATE, ("resume", "e"), ("h", 0), ("h", 1), ("h", 0), ("resume", "e")),
                         [[], [], [], [], [], [("lean", "e")]])


class Fresh(unittest.TestCase):
    def test_the_example(self):
        play = Play(Book.read(EXAMPLE))
        self.assertEqual(play.faults, [])
        play.call("h", 1)
        self.assertEqual(play.faults, [("lean", "e")])
        play.call("k", 1)
        self.assertEqual(play.faults, [("fresh", "e")])
        play.call("k", 0)
        self.assertEqual(play.faults, [])

    def test_it_lasts_as_long_as_the_report_is_stale(self):
        text = "cell a = 0/effect e/tell peek a/end/handler h x/set a = x/end/handler none/end"
        self.assertEqual(faults(text, ("h", 1), ("none",), ("h", 2)),
                         [[], *[[("fresh", "e")]] * 3])

    def test_only_at_rest(self):
        text = ("cell a = 0/effect e/tell peek a/end/effect w/wait/end/handler h x/set a = x/end")
        self.assertEqual(faults(text, ("h", 1), ("resume", "w"), ("h", 0)),
                         [[], [], [("fresh", "e")], []])

    def test_not_while_the_effect_itself_waits(self):
        text = "cell a = 0/effect e/wait/let u = a/tell u/end/handler h x/set a = x/end"
        self.assertEqual(faults(text, ("h", 1), ("resume", "e"), ("h", 2)),
                         [[], [], [], [("fresh", "e")]])

    def test_none_is_no_report(self):
        book = book_of("cell a = 0/effect e/note a/end/effect f/end/handler h x/set a = x/end/"
                       "handler none/end")
        play = Play(book, state=((0,), (), ((None, (("a", 0),), None), ((), (), None))))
        self.assertEqual(play.faults, [])
        play.call("none")
        self.assertEqual(play.faults, [("fresh", "e")])
        play.call("h", 1)
        self.assertEqual(play.faults, [])

    def test_an_effect_without_a_report_that_waits(self):
        self.assertEqual(faults("cell a = 0/effect e/wait/tell a/end"), [[]])

    def test_own_sets_belong_to_the_true_report(self):
        # With a at 5 its own set is done first, so the report told is the true one.
        self.assertEqual(faults("cell a = 5/effect e/if a == 5/set a = 1/end/tell a/end"),
                         [[("lean", "e")]])


class Ends(unittest.TestCase):
    ring = "cell a = 0/effect e/tell peek a/if a != 0/if a == 1/set a = 2/else/set a = 1/end/end/end/"

    def test_an_endless_event_has_no_other_fault(self):
        play = Play(book_of(self.ring + "handler h x/set a = x/end"))
        with self.assertRaises(Ring):
            play.call("h", 1)
        self.assertEqual(play.faults, [("ends", None)])
        self.assertEqual(list(play.reports())[:2], [("e", (0,)), ("e", (1,))])

    def test_at_the_start(self):
        text = "cell a = 0/effect e/if a == 0/set a = 1/else/set a = 0/end/end"
        self.assertEqual(replay_faults(book_of(text), (START,)), [("ends", None)])


class Together(unittest.TestCase):
    text = ("cell a = 0/cell b = 0/effect d/tell peek a/note b/end/effect e/tell a/tell b/end/"
            "effect g/note a/end/handler h x y/set b = x/set a = y/end")

    def test_the_order_of_the_asks_and_then_of_the_effects(self):
        self.assertEqual(faults(self.text, ("h", 1, 2)), [[], [
            ("whole", "d"), ("whole", "e"), ("lean", "d"), ("lean", "g"), ("fresh", "d")]])

    def test_each_fault_once(self):
        text = self.text.replace("set a = y", "set a = y/set b = y/set b = x/set a = x/set a = 0")
        self.assertEqual(faults(text, ("h", 1, 2)), [[], [
            ("whole", "d"), ("whole", "e"), ("lean", "d"), ("lean", "g"), ("fresh", "d")]])

    def test_the_list_is_a_new_one_each_time(self):
        play = Play(Book.read(EXAMPLE))
        play.call("h", 1)
        play.faults.append("x")
        play.faults.clear()
        self.assertEqual(play.faults, [("lean", "e")])

    def test_a_call_that_is_no_event_leaves_them(self):
        play = Play(Book.read(EXAMPLE))
        play.call("h", 1)
        with self.assertRaises(ValueError):
            play.call("h")
        self.assertEqual(play.faults, [("lean", "e")])


class Keeping(unittest.TestCase):
    """Each ask alone, in both orders, of books that break just some."""

    def test_each_ask_alone(self):
        for text, kept in (
                ("cell a = 0/effect e/tell a/end/handler h x/set a = x/end", "ends whole lean fresh"),
                (HALF, "ends fresh lean"), (Lean.text, "ends fresh"),
                ("cell a = 0/effect e/tell peek a/end/handler h x/set a = x/end", "ends whole lean"),
                (LATE, "ends whole fresh"),
                (Ends.ring + "handler h x/set a = x/end", "whole lean fresh")):
            for ask in ("ends", "whole", "lean", "fresh"):
                with self.subTest(text=text, ask=ask):
                    self.assertIs(bool(judge(book_of(text), asks=(ask,))), ask in kept)


if __name__ == "__main__":
    unittest.main()
