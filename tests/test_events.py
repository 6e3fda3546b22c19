"""Point 27: known values, the events of a state and their ways."""

import random
import unittest
from fractions import Fraction

from tests.chance import Chance
from tests.samples import EXAMPLE, book_of
from trackedreads.books import Book
from trackedreads.errors import BadArguments, BadState, NoName, NotWaiting, Ring, TooMany
from trackedreads.play import Play
from trackedreads.states import canonical, events, start_ways, ways

BOOK = book_of("cell a = 3/cell b = 0/effect e/wait/end/effect f/tell a/end/effect g/wait/end/"
               "handler none/end/handler one x/end/handler two x y/end")
# Whichever effect is run first puts a back, so that it alone is due then.
FIRST = "if a == 1/set a = 0/end/end/"
TWO = f"cell a = 0/effect e/{FIRST}effect f/{FIRST}"
THREE = f"{TWO}effect g/{FIRST}"
# Books whose starts have 8 and 9 ways.
START_8 = book_of("cell a = 0/cell b = 0/cell c = 0/effect e/note a/set a = b/end/"
                  "effect f/note a/end/effect g/set c = b/set b = 1/end")
START_9 = book_of("cell a = 0/cell b = 0/effect e/if a == b/set a = 1/end/end/"
                  "effect f/note b/set b = a/end/effect g/set a = 0/end")


def calls(name, *given):
    return [("call", name, values, ()) for values in given]


def at_rest(*values):
    """A state of the book with these values and no others."""
    return (values, (), ((None, (), None),) * 3)


def state_with_values(many):
    """A state of a book with a cell, an effect and the number 0, with so many known values."""
    return ((0,), (), ((tuple(range(many)), (), None),))


class Events(unittest.TestCase):
    def test_handlers_in_order_then_resumes(self):
        known = [-4, 0, 3]
        first = known + [1]
        state = ((3, -4), (), ((None, (), (0, (), ())), (None, (), None), (None, (), (0, (), ()))))
        pairs = [(x, y) for x in first for y in first] + [(1, 2)]
        self.assertEqual(events(BOOK, state), [
            ("call", "none", (), ()), *calls("one", *[(x,) for x in first]), *calls("two", *pairs),
            ("resume", "e", ()), ("resume", "g", ())])

    def test_pairs_in_their_order(self):
        book = book_of("cell a = 0/effect e/end/handler two x y/end")
        self.assertEqual(events(book, ((5,), (), (((), (), None),))), calls(
            "two", (0, 0), (0, 5), (0, 1), (5, 0), (5, 5), (5, 1), (1, 0), (1, 5), (1, 1), (1, 2)))

    def test_new_values_are_the_least_from_0_on_that_are_not_known(self):
        for values, new in (((3, 0), (1, 2)), ((1, 2), (4, 5)), ((-1, -2), (1, 2)), ((2, 7), (1, 4)),
                            ((10 ** 59, 1), (2, 4)), ((4, 5), (1, 2))):
            told = events(BOOK, at_rest(*values))
            self.assertEqual(told[-1], ("call", "two", new, ()))
            ones = [event[2][0] for event in told if event[1] == "one"]
            self.assertEqual(ones, sorted({0, 3, *values}) + [new[0]])

    def test_numbers_of_the_book_are_known_wherever_they_stand(self):
        book = book_of("cell a = 2/kept k/give 7/end/effect e/if a == 4/tell 9/end/end/handler h x/end")
        state = ((2,), (None,), ((None, (), None),))
        self.assertEqual(events(book, state), calls("h", (2,), (4,), (7,), (9,), (0,)))

    def test_every_value_in_the_state_is_known(self):
        book = book_of("cell a = 0/kept k/note a/give a/end/effect e/let u = a/wait/end/"
                       "effect f/end/handler h x/end")
        state = ((11,), ((12, (("a", 13),)),), (((14,), (("k", 15),), (1, (("u", 16),), (17,))),
                                                ((18, 11), (), None)))
        self.assertEqual([event[2] for event in events(book, state)[:-1]],
                         [(0,)] + [(n,) for n in range(11, 19)] + [(1,)])

    def test_places_are_not_known(self):
        book = book_of("cell a = 0/effect e/note a/wait/end/handler h x/end")
        state = ((0,), (), ((None, (), (1, (), ())),))
        self.assertEqual(events(book, state), calls("h", (0,), (1,)) + [("resume", "e", ())])

    def test_no_handlers(self):
        book = book_of("cell a = 0/effect e/wait/end")
        self.assertEqual(events(book, Play(book).state()), [("resume", "e", ())])
        self.assertEqual(events(book, ((0,), (), (((), (), None),))), [])

    def test_the_list_is_a_new_one(self):
        state = at_rest(1, 2)
        events(BOOK, state).clear()
        self.assertEqual(len(events(book=BOOK, state=state)), 1 + 5 + 26)

    def test_at_most_two_thousand(self):
        book = book_of("cell a = 0/effect e/end/handler h x/end")
        self.assertEqual(len(events(book, state_with_values(1999))), 2000)
        with self.assertRaises(TooMany) as caught:
            events(book, state_with_values(2000))
        self.assertEqual(caught.exception.what, "events")
        book = book_of("cell a = 0/effect e/end/handler h x y/end")
        self.assertEqual(len(events(book, state_with_values(43))), 44 * 44 + 1)
        for many in (44, 9000):
            with self.assertRaises(TooMany):
                events(book, state_with_values(many))

    def test_handlers_and_resumes_count_together(self):
        book = book_of("cell a = 0/effect e/wait/end/handler h x/end/handler k/end")
        for many, is_too_many in ((1996, False), (1997, False), (1998, True)):
            state = ((0,), (), ((tuple(range(many)), (), (0, (), ())),))
            if is_too_many:
                with self.assertRaises(TooMany):
                    events(book, state)
            else:
                self.assertEqual(len(events(book, state)), many + 3)


class WaysOfCalls(unittest.TestCase):
    def ways(self, text, *values):
        book = book_of(text)
        return ways(book, Play(book).state(), ("call", "h", values, ()))

    def test_one_entry_for_each_run(self):
        head = "cell a = 0/effect e/note a/end/effect f/note a/end/"
        self.assertEqual(self.ways(head + "handler h/end"), [()])
        self.assertEqual(self.ways(head + "handler h/set a = 0/end"), [()])
        self.assertEqual(self.ways(head + "handler h/set a = 1/end"), [(0, 0), (1, 0)])
        self.assertEqual(self.ways(head + "effect g/note a/end/handler h/set a = 1/end"), [
            (0, 0, 0), (0, 1, 0), (1, 0, 0), (1, 1, 0), (2, 0, 0), (2, 1, 0)])

    def test_they_go_through_all_settlings(self):
        head = "cell a = 0/effect e/note a/end/effect f/note a/end/"
        self.assertEqual(self.ways(head + "handler h/set a = 1/set a = 2/end"), [
            (0, 0, 0, 0), (0, 0, 1, 0), (1, 0, 0, 0), (1, 0, 1, 0)])
        self.assertEqual(self.ways(head + "handler h/batch/set a = 1/set a = 2/end/end"),
                         [(0, 0), (1, 0)])

    def test_ways_of_different_lengths(self):
        # If e comes first, it hides from f that a has changed.
        text = ("cell a = 0/effect e/if a == 1/set a = 0/end/end/effect f/note a/end/"
                "handler h/set a = 1/end")
        self.assertEqual(self.ways(text), [(0, 0), (1, 0, 0, 0), (1, 0, 1, 0)])

    def test_endless_ways_go_up_to_the_point_where_they_end(self):
        text = ("cell a = 0/effect e/if a == 1/set a = 2/else/if a == 2/set a = 1/end/end/end/"
                "handler h x/set a = x/end")
        self.assertEqual(self.ways(text, 1), [(0, 0, 0)])
        text = text.replace("handler", "effect f/if a == 1/set a = 0/end/end/handler")
        found = self.ways(text, 1)
        self.assertIn((0, 0, 0), found)
        self.assertIn((1, 0), found)

    def test_the_picks_of_the_event_are_not_used(self):
        book = book_of(THREE + "handler h/set a = 1/end")
        for picks in ((), (1,), (7, -3, 10 ** 59)):
            self.assertEqual(ways(book, Play(book).state(), ("call", "h", (), picks)),
                             [(0, 0), (1, 0), (2, 0)])

    def test_at_most_eight(self):
        self.assertEqual(len(self.ways(TWO + "handler h/set a = 1/set a = 1/set a = 1/end")), 8)
        for text in (THREE + "handler h/set a = 1/set a = 1/end",
                     TWO + "handler h/set a = 1/set a = 1/set a = 1/set a = 1/end"):
            with self.assertRaises(TooMany) as caught:
                self.ways(text)
            self.assertEqual(caught.exception.what, "ways")
        self.assertEqual(len(self.ways(THREE + "handler h/set a = 1/end")), 3)


class WaysOfResumesAndStarts(unittest.TestCase):
    def test_a_resumed_run_takes_no_pick(self):
        book = book_of("cell a = 0/effect e/note a/end/effect f/note a/end/effect g/wait/set a = 1/end")
        self.assertEqual(ways(book, Play(book).state(), ("resume", "g", ())), [(0, 0), (1, 0)])

    def test_the_start(self):
        self.assertEqual(start_ways(Book.read(EXAMPLE)), [()])
        book = book_of("cell a = 0/effect e/note a/end/effect f/note a/end/effect g/set a = 1/end")
        self.assertEqual(start_ways(book=book), [(0, 0), (1, 0)])

    def test_an_endless_start(self):
        book = book_of("cell a = 0/effect e/if a == 0/set a = 1/else/set a = 0/end/end")
        self.assertEqual(start_ways(book), [(0, 0)])

    def test_at_most_eight(self):
        found = start_ways(START_8)
        self.assertEqual(len(found), 8)
        for way in found:
            play = Play(START_8, picks=way)
            self.assertEqual(tuple(at for at, _ in play.choices), way)
        with self.assertRaises(TooMany) as caught:
            start_ways(START_9)
        self.assertEqual(caught.exception.what, "ways")

    def test_what_goes_beyond_has_nine(self):
        # Counted by hand, way by way, as start_ways does not tell them.
        found = []
        picks = ()
        while picks is not None:
            choices = Play(START_9, picks=picks).choices
            found.append(choices)
            picks = None
            for at in range(len(choices) - 1, -1, -1):
                if choices[at][0] + 1 < choices[at][1]:
                    picks = tuple(index for index, _ in choices[:at]) + (choices[at][0] + 1,)
                    break
        self.assertEqual(len(set(found)), 9)


class WrongEvents(unittest.TestCase):
    def setUp(self):
        self.state = ((3, 0), (), ((None, (), (0, (), ())), (None, (), None), (None, (), None)))

    def test_as_play_does(self):
        for event, error, field, told in (
                (("call", "zz", (), ()), NoName, "name", "zz"),
                (("call", "e", (), ()), NoName, "name", "e"),
                (("call", "one", (), ()), BadArguments, "count", 0),
                (("call", "two", (1, 2, 3), ()), BadArguments, "count", 3),
                (("resume", "one", ()), NoName, "name", "one"),
                (("resume", "f", ()), NotWaiting, "name", "f"),
                (("resume", "g", ()), NotWaiting, "name", "g")):
            for asked in (lambda: ways(BOOK, self.state, event),
                          lambda: Play(BOOK, state=self.state).do(event)):
                with self.assertRaises(error) as caught:
                    asked()
                self.assertEqual(getattr(caught.exception, field), told)

    def test_a_wrong_state_comes_first(self):
        with self.assertRaises(BadState) as caught:
            ways(BOOK, ((3,), (), ()), ("call", "zz", (), ()))
        self.assertEqual(caught.exception.part, 0)
        with self.assertRaises(BadState):
            ways(book=BOOK, state=None, event=("resume", "f", ()))


class Completeness(unittest.TestCase):
    """The ways of many events part all picks among themselves: each pick falls to one."""

    def test_many_events(self):
        for seed in range(150):
            draw = random.Random(seed)
            book = Chance(draw).book()
            try:
                state = canonical(book, Play(book).state())
            except Ring:
                continue
            for event in draw.sample(events(book, state), min(4, len(events(book, state)))):
                self.check(book, state, event)

    def check(self, book, state, event):
        try:
            found = ways(book, state, event)
        except TooMany:
            return
        self.assertEqual(found, sorted(set(found)))
        share = Fraction(0)
        for way in found:
            play = Play(book, state=state)
            try:
                play.do(event[:-1] + (way,))
            except Ring:
                pass
            self.assertEqual(tuple(at for at, _ in play.choices), way)
            part = Fraction(1)
            for _, many in play.choices:
                part /= many
            share += part
        self.assertEqual(share, 1)


if __name__ == "__main__":
    unittest.main()
