"""The interface of play.py, and point 2 where plays rest on it."""

import inspect
import unittest

from tests.samples import EXAMPLE, FULL, book_of
from trackedreads import play as module
from trackedreads.books import Book
from trackedreads.errors import NoName, Ring
from trackedreads.play import Play, replay, replay_faults

WAITS = ("cell a = 0/cell b = 1/effect e/tell a/wait/tell b/end/effect f/tell b/end/"
         "handler h x/set a = x/end/handler k x/set b = x/end")
RING = ("cell a = 0/cell b = 1/effect e/if a != 0/if a == 1/set a = 2/else/set a = 1/end/end/"
        "tell a/end/effect w/wait/end/handler h x/set b = x/set a = x/end")


class TheExample(unittest.TestCase):
    def test_word_for_word(self):
        play = Play(Book.read(EXAMPLE))
        self.assertEqual(list(play.reports()), [("e", (0,))])
        self.assertEqual(play.state()[2], (((0,), (("a", 0), ("b", 0)), None),))
        self.assertEqual(play.call("h", 1), [("e", (0,))])
        self.assertEqual(play.state()[2], (((0,), (("a", 1),), None),))
        self.assertEqual(play.call("k", 1), [])
        self.assertEqual(play.state()[2], (((0,), (("a", 1),), None),))
        self.assertEqual(play.faults, [("fresh", "e")])

    def test_ring_word_for_word(self):
        book = book_of("cell a = 0/effect e/if a == 0/set a = 1/else/set a = 0/end/end")
        with self.assertRaises(Ring) as caught:
            Play(book)
        self.assertEqual(caught.exception.effects, ("e", "e"))
        self.assertEqual(caught.exception.cells, ("a",))
        with self.assertRaises(Ring):
            Play(book, picks=(1, 2, 3))


class Methods(unittest.TestCase):
    def test_they_are_defined_in_the_class_and_all_in_the_file(self):
        for name in ("__init__", "call", "resume", "do", "state", "__getitem__", "reports",
                     "present", "waiting", "faults", "choices", "is_over", "__len__"):
            self.assertIn(name, Play.__dict__)
        for name in ("present", "waiting", "faults", "choices", "is_over"):
            self.assertIsInstance(Play.__dict__[name], property)
        for thing in (Play, replay, replay_faults):
            self.assertEqual(thing.__module__, module.__name__)

    def test_parameters_by_name(self):
        play = Play(book=book_of(WAITS), picks=(), state=None)
        self.assertEqual(play.call("h", 2, picks=()), [])
        self.assertEqual(play.resume(name="e", picks=(1,)), [("e", (2, 1))])
        self.assertEqual(play.do(event=("call", "k", (5,), ())), [("f", (5,))])
        self.assertEqual(len(replay(book=book_of(WAITS), row=(("start", ()),))), 1)
        self.assertEqual(replay_faults(book=book_of(WAITS), row=(("start", ()),)), [])
        none = Play(book_of(WAITS + "/handler none/end"))
        self.assertEqual(none.call(name="none", picks=()), [])

    def test_picks_and_state_are_passed_by_name_only(self):
        for wrong in (lambda: Play(book_of(WAITS), ()), lambda: Play(book_of(WAITS)).resume("e", ())):
            with self.assertRaises(TypeError):
                wrong()


class Telling(unittest.TestCase):
    def test_call_resume_and_do_tell_the_reports_of_the_event(self):
        play = Play(book_of(WAITS))
        self.assertEqual(play.call("k", 4), [("f", (4,))])
        self.assertEqual(play.call("h", 4), [])
        self.assertEqual(play.resume("e"), [("e", (4, 4))])
        self.assertEqual(play.do(("call", "h", (5,), ())), [])
        self.assertEqual(play.do(("resume", "e", ())), [("e", (5, 4))])
        self.assertEqual(list(play.reports()), [
            ("f", (1,)), ("f", (4,)), ("e", (4, 4)), ("e", (5, 4))])

    def test_do_takes_the_picks_of_the_event(self):
        text = "cell a = 0/effect e/note a/end/effect f/note a/end/handler h x/set a = x/end"
        play = Play(book_of(text))
        self.assertEqual(play.do(("call", "h", (1,), (1,))), [("f", ()), ("e", ())])
        self.assertEqual(play.choices, ((1, 2), (0, 1)))

    def test_the_list_is_a_new_one(self):
        play = Play(book_of(WAITS))
        told = play.call("k", 4)
        told.append(("f", (9,)))
        del told[0]
        self.assertEqual(list(play.reports()), [("f", (1,)), ("f", (4,))])
        self.assertEqual(play.state()[2][1][0], (4,))

    def test_reports_is_a_generator(self):
        play = Play(book_of(WAITS))
        self.assertTrue(inspect.isgeneratorfunction(Play.reports))
        begun_later = play.reports()
        play.call("k", 4)
        self.assertEqual(list(begun_later), [("f", (1,)), ("f", (4,))])
        self.assertEqual(list(begun_later), [])
        self.assertEqual(next(play.reports()), ("f", (1,)))

    def test_values_of_thirty_digits(self):
        big = 10 ** 30 - 1
        play = Play(book_of(WAITS))
        self.assertEqual(play.call("k", big), [("f", (big,))])
        self.assertEqual(play.call("k", -big), [("f", (-big,))])
        self.assertEqual(play["b"], -big)


class Asking(unittest.TestCase):
    def test_values_of_cells(self):
        play = Play(book_of(WAITS))
        self.assertEqual((play["a"], play["b"], play.present), (0, 1, (0, 1)))
        play.call("h", -7)
        self.assertEqual((play["a"], play["b"], play.present), (-7, 1, (-7, 1)))

    def test_no_such_cell(self):
        play = Play(Book.read(FULL))
        for name in (None, True, 0, 1, -1, "", "z", "sum", "twin", "e", "h", "x", ["a"], ("a",), (),
                     [], [[1]], 10 ** 60):
            with self.assertRaises(NoName) as caught:
                play[name]
            self.assertEqual(caught.exception.name, name)
            self.assertIs(caught.exception.name.__class__, name.__class__)

    def test_waiting(self):
        play = Play(book_of(WAITS))
        self.assertEqual(play.waiting, ("e",))
        play.resume("e")
        self.assertEqual(play.waiting, ())

    def test_how_many_events_happened(self):
        play = Play(book_of(WAITS))
        self.assertEqual(len(play), 1)
        play.call("h", 0)
        play.resume("e")
        self.assertEqual(len(play), 3)
        for wrong in (lambda: play.call("h"), lambda: play.call("z", 1), lambda: play.resume("e")):
            with self.assertRaises(ValueError):
                wrong()
        self.assertEqual(len(play), 3)

    def test_choices_of_the_last_event(self):
        play = Play(book_of(WAITS))
        self.assertEqual(play.choices, ())
        play.call("h", 5)
        self.assertEqual(play.choices, ((0, 1),))
        with self.assertRaises(ValueError):
            play.call("h")
        self.assertEqual(play.choices, ((0, 1),))
        play.resume("e")
        self.assertEqual(play.choices, ())

    def test_kinds_of_values(self):
        play = Play(book_of(WAITS))
        play.call("h", 5)
        for thing, kind in ((play.present, tuple), (play.waiting, tuple), (play.faults, list),
                            (play.choices, tuple), (play.is_over, bool), (play.state(), tuple),
                            (play.call("k", 2), list), (play.resume("e"), list)):
            self.assertIs(thing.__class__, kind)

    def test_properties_cannot_be_assigned(self):
        play = Play(book_of(WAITS))
        for name in ("present", "waiting", "faults", "choices", "is_over"):
            with self.assertRaises(AttributeError):
                setattr(play, name, ())

    def test_a_play_is_not_iterated_over(self):
        with self.assertRaises(TypeError):
            list(Play(book_of(WAITS)))

    def test_a_play_is_equal_to_nothing_else(self):
        book = book_of(WAITS)
        for other in (book, None, (), 1, Play(book).state(), "play"):
            self.assertFalse(Play(book) == other)
            self.assertTrue(Play(book) != other)


class BehindRing(unittest.TestCase):
    def setUp(self):
        self.play = Play(book_of(RING))
        with self.assertRaises(Ring) as caught:
            self.play.call("h", 7)
        self.why = caught.exception

    def test_everything_is_as_it_was_then(self):
        play = self.play
        # a is 7, 1, 2, 1, 2; the run that makes it 1 from 2 leads to the note (a, 2) again.
        self.assertEqual((self.why.effects, self.why.cells), (("e", "e"), ("a",)))
        self.assertEqual(play.present, (2, 7))
        self.assertEqual((play["a"], play["b"]), (2, 7))
        self.assertEqual(play.waiting, ("w",))
        self.assertEqual(play.faults, [("ends", None)])
        self.assertEqual(play.choices, ((0, 1),) * 4)
        self.assertEqual(list(play.reports()),
                         [("e", (0,)), ("e", (1,)), ("e", (2,)), ("e", (1,)), ("e", (2,))])
        self.assertIs(play.is_over, True)
        self.assertEqual(len(play), 2)

    def test_no_cell_behind_ring(self):
        with self.assertRaises(NoName):
            self.play["w"]

    def test_changing_what_was_told_changes_nothing(self):
        self.play.faults.clear()
        self.assertEqual(self.play.faults, [("ends", None)])


class Apart(unittest.TestCase):
    def test_two_plays_of_one_book_share_nothing(self):
        book = book_of(WAITS)
        one = Play(book)
        other = Play(book)
        one.call("h", 5)
        one.resume("e")
        self.assertEqual(other.state(), Play(book).state())
        self.assertEqual(len(other), 1)
        self.assertEqual(other.waiting, ("e",))
        self.assertEqual(book, book_of(WAITS))

    def test_two_plays_of_one_state_share_nothing(self):
        book = book_of(WAITS)
        state = Play(book).state()
        one = Play(book, state=state)
        other = Play(book, state=state)
        one.call("k", 5)
        self.assertEqual(other.state(), state)
        self.assertEqual(list(other.reports()), [])

    def test_the_same_again(self):
        for _ in range(3):
            play = Play(Book.read(FULL))
            play.call("move", 1, 2)
            self.assertEqual(play.state(), ((2, 7), ((2, (("a", 2),)), None), (
                (None, (("sum", 2),), (1, (("x", 2),), ())), ((), (), None))))


if __name__ == "__main__":
    unittest.main()
