"""Points 18 to 20: calls and their settlings, waits and resumes."""

import unittest

from tests.samples import book_of
from trackedreads.errors import BadArguments, NoName, NotWaiting
from trackedreads.play import Play

HEAD = "cell a = 0/cell b = 0/cell c = 0/effect e/tell a/tell b/end/"


def called(handler, *values, picks=()):
    """The reports that e tells in a call of this handler, which is called h."""
    play = Play(book_of(HEAD + handler + "/end"))
    return [report for _, report in play.call("h", *values, picks=picks)]


def due_play(handler):
    """A play with this handler, in a state in which e is due: its note of a is not right."""
    book = book_of(HEAD + handler + "/end")
    return Play(book, state=((5, 0, 0), (), (((0, 0), (("a", 0),), None),)))


class Sets(unittest.TestCase):
    def test_each_set_settles_at_once(self):
        self.assertEqual(called("handler h/set a = 1/set b = 2"), [(1, 0), (1, 2)])
        self.assertEqual(called("handler h x/if x == 3/set a = 1/end/set b = 2", 3),
                         [(1, 0), (1, 2)])

    def test_the_body_goes_on_behind_the_settling(self):
        text = ("cell a = 0/cell b = 0/cell c = 0/effect e/set b = a/end/"
                "handler h x/set a = x/set c = b/end")
        play = Play(book_of(text))
        play.call("h", 4)
        self.assertEqual(play.present, (4, 4, 4))

    def test_it_settles_also_if_the_value_is_the_same(self):
        play = due_play("handler h/set c = 0")
        self.assertEqual(play.call("h"), [("e", (5, 0))])
        self.assertEqual(play.call("h"), [])

    def test_there_is_no_other_settling(self):
        play = due_play("handler h/let x = a/if a == x/end")
        self.assertEqual(play.call("h"), [])
        self.assertEqual(play.choices, ())
        self.assertEqual(due_play("handler h").call("h"), [])
        play = due_play("handler h/if a == 0/set c = 0/end")
        self.assertEqual(play.call("h"), [])

    def test_a_handler_sees_its_own_sets(self):
        self.assertEqual(called("handler h/set a = 3/set b = a"), [(3, 0), (3, 3)])
        self.assertEqual(called("handler h/batch/set a = 3/set b = a/end"), [(3, 3)])

    def test_parameters_and_locals_keep_their_values(self):
        text = ("cell a = 0/cell b = 0/cell c = 0/effect e/if a != 7/set a = 7/end/end/"
                "handler h x/let u = a/let v = x/set a = x/set b = u/set c = v/set b = x/end")
        play = Play(book_of(text))
        play.call("h", 4)
        self.assertEqual(play.present, (7, 4, 4))
        play = Play(book_of(text.replace("set b = x/", "")))
        play.call("h", 4)
        self.assertEqual(play.present, (7, 7, 4))

    def test_parameters_in_their_order(self):
        self.assertEqual(called("handler h x y/set a = x/set b = y", 8, 9), [(8, 0), (8, 9)])
        self.assertEqual(called("handler h x y/let x = y/set a = x/set b = y", 8, 9),
                         [(9, 0), (9, 9)])


class Batches(unittest.TestCase):
    def test_one_settling_at_the_end(self):
        self.assertEqual(called("handler h/batch/set a = 1/set b = 2/end"), [(1, 2)])
        self.assertEqual(called("handler h/batch/set a = 1/end/set b = 2"), [(1, 0), (1, 2)])
        self.assertEqual(called("handler h/set b = 2/batch/set a = 1/set b = 3/end/set a = 2"),
                         [(0, 2), (1, 3), (2, 3)])

    def test_nested_ones_settle_at_the_end_of_the_outermost(self):
        self.assertEqual(
            called("handler h/batch/batch/set a = 1/end/set b = 2/batch/set a = 3/end/end"),
            [(3, 2)])
        self.assertEqual(called("handler h/batch/batch/set a = 1/end/end/set b = 2"),
                         [(1, 0), (1, 2)])

    def test_blocks_inside_and_around(self):
        self.assertEqual(
            called("handler h x/if x == 1/batch/set a = 1/if a == 1/set b = 2/else/set b = 3/end/"
                   "end/else/set a = 3/set b = 3/end/set a = 2", 1), [(1, 2), (2, 2)])
        self.assertEqual(
            called("handler h x/batch/if x == 1/set a = 1/else/set a = 2/end/if x == 1/end/"
                   "set b = 5/end", 0), [(2, 5)])
        self.assertEqual(called("handler h/batch/if a != 0/batch/set a = 1/end/end/end"), [])

    def test_an_empty_one_settles_too(self):
        self.assertEqual(due_play("handler h/batch/end").call("h"), [("e", (5, 0))])
        self.assertEqual(due_play("handler h/batch/batch/end/end").call("h"), [("e", (5, 0))])
        self.assertEqual(due_play("handler h/if a == 0/batch/end/end").call("h"), [])

    def test_nothing_settles_inside(self):
        text = ("cell a = 0/cell b = 0/effect e/set b = a/end/"
                "handler h x/batch/set a = x/set a = b/end/end")
        play = Play(book_of(text))
        self.assertEqual(play.call("h", 4), [])
        self.assertEqual(play.present, (0, 0))

    def test_picks_are_used_up_by_one_settling_after_the_other(self):
        text = ("cell a = 0/effect e/note a/end/effect f/note a/end/"
                "handler h/set a = 1/batch/set a = 2/end/set a = 3/end")
        play = Play(book_of(text))
        told = play.call("h", picks=(1, 0, 0, 9, 3))
        self.assertEqual([name for name, _ in told], ["f", "e", "e", "f", "f", "e"])
        self.assertEqual(play.choices, ((1, 2), (0, 1), (0, 2), (0, 1), (1, 2), (0, 1)))


class Waits(unittest.TestCase):
    text = ("cell a = 0/cell b = 0/effect e/let u = a/tell u/wait/tell b/wait/tell u/set b = 7/end/"
            "effect f/tell b/end/handler h x/set a = x/end/handler k x/set b = x/end")

    def setUp(self):
        self.play = Play(book_of(self.text))

    def wait(self):
        return self.play.state()[2][0]

    def test_a_run_stops_at_a_wait(self):
        self.assertEqual(list(self.play.reports()), [("f", (0,))])
        self.assertEqual(self.play.waiting, ("e",))
        self.assertEqual(self.wait(), (None, (("a", 0),), (2, (("u", 0),), (0,))))

    def test_resume_goes_on_to_the_next_wait_and_to_the_end(self):
        self.assertEqual(self.play.resume("e"), [])
        self.assertEqual(self.wait(), (None, (("a", 0),), (4, (("u", 0),), (0, 0))))
        # Behind the run there is a settling, in which f sees what it has set.
        self.assertEqual(self.play.resume("e"), [("e", (0, 0, 0)), ("f", (7,))])
        self.assertEqual(self.wait(), ((0, 0, 0), (("a", 0),), None))
        self.assertEqual(self.play.waiting, ())

    def test_events_may_come_meanwhile(self):
        self.assertEqual(self.play.call("k", 5), [("f", (5,))])
        self.play.resume("e")
        self.assertEqual(self.play.call("k", 6), [("f", (6,))])
        self.assertEqual(self.play.resume("e"), [("e", (0, 5, 0)), ("f", (7,))])

    def test_a_run_from_the_beginning_drops_what_is_left(self):
        self.play.resume("e")
        self.assertEqual(self.play.call("h", 3), [])
        self.assertEqual(self.wait(), (None, (("a", 3),), (2, (("u", 3),), (3,))))
        self.play.resume("e")
        self.assertEqual(self.play.resume("e")[0], ("e", (3, 0, 3)))

    def test_a_waiting_effect_keeps_its_last_report(self):
        self.play.resume("e")
        self.play.resume("e")
        self.play.call("h", 3)
        self.assertEqual(self.wait(), ((0, 0, 0), (("a", 3),), (2, (("u", 3),), (3,))))

    def test_a_run_from_the_beginning_need_not_wait(self):
        text = ("cell a = 0/effect e/tell 5/if a == 0/wait/end/tell a/end/"
                "handler h x/set a = x/end")
        play = Play(book_of(text))
        self.assertEqual(play.waiting, ("e",))
        self.assertEqual(play.call("h", 3), [("e", (5, 3))])
        self.assertEqual(play.waiting, ())

    def test_waits_in_blocks(self):
        text = ("cell a = 0/effect e/if a == 0/quiet/if a == 0/tell 1/wait/tell 2/else/tell 3/end/"
                "tell 3/end/tell 1/else/tell 3/end/tell 2/end")
        play = Play(book_of(text))
        self.assertEqual(play.state()[2][0], (None, (("a", 0),), (4, (), (1,))))
        self.assertEqual(play.resume("e"), [("e", (1, 2, 3, 1, 2))])

    def test_a_wait_at_the_end_of_a_block_ahead_of_else(self):
        text = "cell a = 0/effect e/if a == 0/wait/else/tell 6/end/tell 7/end"
        self.assertEqual(Play(book_of(text)).resume("e"), [("e", (7,))])
        text = "cell a = 0/effect e/if a != 0/tell 6/else/wait/end/end"
        self.assertEqual(Play(book_of(text)).resume("e"), [("e", ())])
        self.assertEqual(Play(book_of("cell a = 0/effect e/wait/end")).resume("e"), [("e", ())])

    def test_a_wait_that_is_not_reached(self):
        text = "cell a = 0/effect e/if a != 0/wait/end/tell a/end"
        self.assertEqual(list(Play(book_of(text)).reports()), [("e", (0,))])

    def test_an_effect_that_waits_can_be_due_behind_its_own_sets(self):
        text = "cell a = 0/effect e/note a/if a == 0/set a = 1/end/wait/end"
        play = Play(book_of(text))
        self.assertEqual(play.choices, ((0, 1),))
        self.assertEqual(play.state()[2][0], (None, (("a", 1),), (4, (), ())))

    def test_what_is_set_behind_a_wait_can_make_it_due(self):
        text = "cell a = 0/effect e/tell a/wait/set a = 1/end"
        play = Play(book_of(text))
        # The resumed run ends and is told; then it is run from its beginning, and waits.
        self.assertEqual(play.resume("e"), [("e", (0,))])
        self.assertEqual(play.choices, ((0, 1),))
        self.assertEqual(play.state()[2][0], ((0,), (("a", 1),), (1, (), (1,))))
        self.assertEqual(play.resume("e"), [("e", (1,))])
        self.assertEqual(play.waiting, ())

    def test_a_resumed_run_takes_no_pick(self):
        text = ("cell a = 0/effect e/note a/end/effect f/note a/end/effect g/wait/set a = 1/end")
        play = Play(book_of(text))
        told = play.resume("g", picks=(1,))
        self.assertEqual([name for name, _ in told], ["g", "f", "e"])
        self.assertEqual(play.choices, ((1, 2), (0, 1)))

    def test_runs_to_a_wait_take_picks(self):
        text = "cell a = 0/effect e/note a/wait/end/effect f/note a/wait/end/handler h/set a = 1/end"
        play = Play(book_of(text))
        self.assertEqual(play.call("h", picks=(1,)), [])
        self.assertEqual(play.choices, ((1, 2), (0, 1)))

    def test_several_effects_wait(self):
        text = "cell a = 0/effect e/wait/tell 1/end/effect f/wait/tell 2/end"
        play = Play(book_of(text))
        self.assertEqual(play.waiting, ("e", "f"))
        self.assertEqual(play.resume("f"), [("f", (2,))])
        self.assertEqual(play.waiting, ("e",))
        self.assertEqual(play.resume(name="e", picks=()), [("e", (1,))])

    def test_locals_of_a_wait_are_those_in_force(self):
        text = ("cell a = 8/effect e/let z = 1/if a == 8/let y = 2/let z = 3/quiet/let x = a/end/"
                "let b = 2/wait/end/let w = z/wait/tell w/tell z/end")
        play = Play(book_of(text))
        known = (("b", 2), ("y", 2), ("z", 3))
        self.assertEqual(play.state()[2][0][2], (8, known, ()))
        play.resume("e")
        self.assertEqual(play.state()[2][0][2], (11, (("w", 3), ("z", 3)), ()))
        self.assertEqual(play.resume("e"), [("e", (3, 3))])


class WrongCalls(unittest.TestCase):
    others = (None, True, 0, -1, "", "z", "x", "a", "e", "h ", [], ["h"], (), ("h",), [[("h",)]])

    def setUp(self):
        self.play = Play(book_of("cell a = 0/effect e/wait/tell a/end/effect f/end/handler h x/"
                                 "set a = x/end/handler k/end/handler m x y/end"))
        self.before = self.play.state()

    def tearDown(self):
        # None of these calls was an event.
        self.assertEqual(self.play.state(), self.before)
        self.assertEqual(len(self.play), 1)
        self.assertEqual(list(self.play.reports()), [("f", ())])

    def test_no_such_handler(self):
        for name in self.others:
            for values in ((), (1,), (1, 2, 3)):
                with self.assertRaises(NoName) as caught:
                    self.play.call(name, *values)
                self.assertEqual(caught.exception.name, name)
                self.assertIs(caught.exception.name.__class__, name.__class__)

    def test_another_number_of_values(self):
        for name, many in (("h", 0), ("h", 2), ("h", 3), ("k", 1), ("m", 0), ("m", 1), ("m", 3)):
            for asked in (lambda: self.play.call(name, *range(many)),
                          lambda: self.play.do(("call", name, tuple(range(many)), ()))):
                with self.assertRaises(BadArguments) as caught:
                    asked()
                self.assertEqual(caught.exception.count, many)

    def test_no_such_effect(self):
        for name in (*self.others, "h", "k"):
            if name == "e":
                continue
            with self.assertRaises(NoName) as caught:
                self.play.resume(name)
            self.assertEqual(caught.exception.name, name)
            self.assertIs(caught.exception.name.__class__, name.__class__)

    def test_effects_that_do_not_wait(self):
        for asked in (lambda: self.play.resume("f"), lambda: self.play.do(("resume", "f", ()))):
            with self.assertRaises(NotWaiting) as caught:
                asked()
            self.assertEqual(caught.exception.name, "f")

    def test_an_effect_that_waits_no_more(self):
        other = Play(book_of("cell a = 0/effect e/wait/end"))
        other.resume("e")
        with self.assertRaises(NotWaiting):
            other.resume("e")


if __name__ == "__main__":
    unittest.main()
