"""Point 26: canonical states."""

import random
import unittest

from tests.chance import Chance, event_by
from tests.samples import book_of
from trackedreads import states
from trackedreads.errors import Ring
from trackedreads.play import Play
from trackedreads.states import canonical, events, start_ways, ways

BIG = 10 ** 60 - 1
# The numbers of this book are 0, 2 and 5.
BOOK = book_of(
    "cell a = 0/cell b = 5/kept k/note b/give a/end/each i/give 2/end/effect e/let u = a/"
    "let t = b/wait/tell u/end/effect f/tell i/end/handler h x/set a = x/end")


def state(a, b, kept, noted, report, mine, t, u, out, told):
    """A state of the book, with its values from left to right."""
    return ((a, b), ((kept, (("b", noted),)), None),
            (((report,), (("k", mine),), (2, (("t", t), ("u", u)), (out,))), ((told,), (), None)))


class Canonical(unittest.TestCase):
    def test_values_in_the_order_in_which_they_occur(self):
        self.assertEqual(canonical(BOOK, state(*range(90, 100))),
                         state(1, 3, 4, 6, 7, 8, 9, 10, 11, 12))
        self.assertEqual(canonical(BOOK, state(*range(100, 90, -1))),
                         state(1, 3, 4, 6, 7, 8, 9, 10, 11, 12))

    def test_each_value_gets_one_name(self):
        self.assertEqual(canonical(BOOK, state(9, 8, 9, 7, 8, 9, 6, 6, 9, 7)),
                         state(1, 3, 1, 4, 3, 1, 6, 6, 1, 4))

    def test_numbers_of_the_book_stay(self):
        given = state(0, 5, 2, 0, 2, 5, 5, 0, 2, 2)
        self.assertEqual(canonical(BOOK, given), given)
        self.assertEqual(canonical(BOOK, state(5, 9, 2, 9, 0, 1, 5, 1, 2, 0)),
                         state(5, 1, 2, 1, 0, 3, 5, 3, 2, 0))

    def test_negative_and_great_values(self):
        self.assertEqual(canonical(BOOK, state(-1, BIG, -BIG, -1, 0, -5, BIG, 1, 3, -2)),
                         state(1, 3, 4, 1, 0, 6, 3, 7, 8, 9))

    def test_values_that_are_names_already_are_named_anew(self):
        self.assertEqual(canonical(BOOK, state(3, 1, 1, 3, 4, 4, 6, 0, 0, 0)),
                         state(1, 3, 3, 1, 4, 4, 6, 0, 0, 0))

    def test_a_canonical_state_is_its_own(self):
        for given in (state(*range(10)), state(*range(90, 100)), state(*[7] * 10)):
            once = canonical(BOOK, given)
            self.assertEqual(canonical(BOOK, once), once)

    def test_places_and_names_are_no_values(self):
        # The place is 2 in all of them, and no value of the others is.
        given = canonical(BOOK, state(*[7] * 10))
        self.assertEqual(given, state(*[1] * 10))
        self.assertEqual(given[2][0][2][0], 2)
        book = book_of("cell a = 0/effect e/note a/wait/wait/end")
        for place in (1, 2):
            self.assertEqual(canonical(book, ((9,), (), ((None, (), (place, (), ())),))),
                             ((1,), (), ((None, (), (place, (), ())),)))

    def test_parts_that_are_missing(self):
        given = ((9, 8), (None, None), ((None, (), None), ((), (), None)))
        self.assertEqual(canonical(BOOK, given), ((1, 3),) + given[1:])

    def test_parameters_by_name(self):
        self.assertEqual(canonical(book=BOOK, state=state(*[0] * 10)), state(*[0] * 10))

    def test_defined_in_this_file(self):
        for thing in (canonical, events, ways, start_ways):
            self.assertEqual(thing.__module__, states.__name__)

    def test_a_book_without_small_numbers(self):
        book = book_of("cell a = 7/effect e/tell 3/end")
        for given, named in ((0, 0), (7, 7), (3, 3), (1, 0), (-7, 0)):
            self.assertEqual(canonical(book, ((given,), (), ((None, (), None),))),
                             ((named,), (), ((None, (), None),)))


def renamed(held, names):
    """The state with other values, by a dict."""
    def row(values):
        return None if values is None else tuple(names[worth] for worth in values)

    def pairs(notes):
        return tuple((name, names[worth]) for name, worth in notes)

    def waiting(wait):
        return wait and (wait[0], pairs(wait[1]), row(wait[2]))

    values, kept, effects = held
    return (row(values),
            tuple(entry and (names[entry[0]], pairs(entry[1])) for entry in kept),
            tuple((row(report), pairs(notes), waiting(wait)) for report, notes, wait in effects))


def values_of(held, numbers):
    seen = {number: number for number in numbers}

    class Watch(dict):
        def __missing__(self, worth):
            seen[worth] = worth
            return worth

    renamed(held, Watch())
    return list(seen)


class Renaming(unittest.TestCase):
    """Renamings of states that plays led to, and of the events in them."""

    def plays(self):
        for seed in range(200):
            draw = random.Random(seed)
            book = Chance(draw).book()
            try:
                play = Play(book)
                for _ in range(4):
                    event = event_by(draw, book, play.waiting)
                    if event is not None:
                        play.do(event)
            except Ring:
                continue
            yield draw, book, play

    def test_renamed_states_have_the_same_canonical_state(self):
        for draw, book, play in self.plays():
            held = play.state()
            known = [worth for worth in values_of(held, book.numbers) if worth not in book.numbers]
            free = [worth for worth in range(-9, 30) if worth not in book.numbers]
            names = dict(zip(known, draw.sample(free, len(known))))
            names.update({number: number for number in book.numbers})
            other = renamed(held, names)
            self.assertEqual(canonical(book, other), canonical(book, held))

    def test_states_with_values_made_equal_have_another_one(self):
        for draw, book, play in self.plays():
            held = play.state()
            known = values_of(held, book.numbers)
            for worth in known:
                if worth in book.numbers or len(known) == 1:
                    continue
                names = {other: other for other in known}
                names[worth] = draw.choice([other for other in known if other != worth])
                self.assertNotEqual(canonical(book, renamed(held, names)), canonical(book, held))

    def test_plays_go_alike_from_states_that_are_alike(self):
        for draw, book, play in self.plays():
            held = play.state()
            event = event_by(draw, book, play.waiting)
            if event is None:
                continue
            given = event[2] if event[0] == "call" else ()
            known = {*values_of(held, book.numbers), *given}
            names = {worth: worth if worth in book.numbers else worth + 50 for worth in known}
            other = Play(book, state=renamed(held, names))
            changed = tuple(names[worth] for worth in given)
            try:
                play.do(event)
            except Ring:
                continue
            other.do(event[:2] + ((changed,) if event[0] == "call" else ()) + event[-1:])
            self.assertEqual(canonical(book, other.state()), canonical(book, play.state()))
            self.assertEqual(other.faults, play.faults)
            self.assertEqual(other.choices, play.choices)


if __name__ == "__main__":
    unittest.main()
