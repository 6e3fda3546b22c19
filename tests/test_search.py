"""Points 28 and 29: verdicts against a search through all rows, and where TooMany is raised."""

import itertools
import random
import unittest

from tests.chance import Chance
from tests.samples import book_of
from trackedreads.errors import Ring, TooMany
from trackedreads.judging import judge
from trackedreads.play import Play, replay
from trackedreads.states import canonical, events, start_ways, ways

ASKS = ("ends", "whole", "lean", "fresh")


def too_many(text, asks=(), order="book"):
    """What TooMany tells of this book; None if there is a verdict."""
    try:
        judge(book_of(text), asks=asks, order=order)
    except TooMany as why:
        return why.what
    return None


def behind(book, state, event):
    """The faults of an event in a state (None: the start), and the state behind it."""
    try:
        play = replay(book, (event,)) if state is None else Play(book, state=state)
        if state is not None:
            play.do(event)
    except Ring:
        return [("ends", None)], None
    return play.faults, play.state()


def ways_of(book, state, event, order):
    if order == "book":
        return [()]
    return start_ways(book) if state is None else ways(book, state, event)


class Rows:
    """All rows whose values are numbers of the book or four others, one event after the other."""

    def __init__(self, book, asks, order):
        self.book = book
        self.asks = asks
        self.order = order
        self.values = (*book.numbers, -1, -2, -3, -4)
        self.seen = set()
        self.level = [None]
        self.many = 0

    def events(self, state):
        if state is None:
            return [("start", ())]
        found = [("call", name, values, ()) for name, parameters in self.book.handlers
                 for values in itertools.product(self.values, repeat=len(parameters))]
        return found + [("resume", name, ()) for name, entry in zip(self.book.effects, state[2])
                        if entry[2] is not None]

    def go_on(self):
        """Rows with one event more: whether one of them has a fault that is asked."""
        self.many += 1
        level = []
        for state in self.level:
            for event in self.events(state):
                for way in ways_of(self.book, state, event, self.order):
                    faults, found = behind(self.book, state, event[:-1] + (way,))
                    if any(ask in self.asks for ask, _ in faults):
                        return True
                    if found is not None and found not in self.seen:
                        self.seen.add(found)
                        level.append(found)
        self.level = level
        return False


class AgainstAllRows(unittest.TestCase):
    def one_book(self, seed):
        draw = random.Random(seed)
        book = Chance(draw).book()
        order = draw.choice(("book", "any"))
        asks = [ask for ask in ASKS if draw.random() < 0.4]
        try:
            verdict = judge(book, asks=asks, order=order)
        except TooMany:
            return
        rows = Rows(book, asks, order)
        while rows.many < 5 and len(rows.seen) < 400 and rows.level:
            is_broken = rows.go_on()
            if is_broken or rows.many == len(verdict):
                self.assertEqual((is_broken, rows.many), (True, len(verdict)))
                return
        if verdict:
            found = {canonical(book, state) for state in rows.seen}
            self.assertLessEqual(found, set(verdict))
            if not rows.level:
                self.assertEqual(found, set(verdict))

    def test_many_books(self):
        for seed in range(250):
            with self.subTest(seed=seed):
                self.one_book(seed)


class FastRows:
    """The canonical states of a book, level by level, by what states.py tells alone."""

    def __init__(self, text):
        self.book = book_of(text)
        _, state = behind(self.book, None, ("start", ()))
        self.level = [canonical(self.book, state)]
        self.found = set(self.level)
        self.events = [len(events(self.book, self.level[0]))]

    def go_on(self):
        level = set()
        for state in self.level:
            for event in events(self.book, state):
                found = canonical(self.book, behind(self.book, state, event)[1])
                if found not in self.found:
                    self.found.add(found)
                    level.add(found)
        self.level = level
        self.events.append(sum(len(events(self.book, state)) for state in level))


# All states of these books together have 500 events, and 501.
EVENTS_500 = ("cell a = 1/cell b = 1/cell c = 1/kept q/give a/end/effect e/tell b/set a = c/end/"
              "handler h x/end/handler k x/set b = x/set a = b/end/handler l x y/if b != q/else/"
              "set b = x/set c = a/end/end")
EVENTS_501 = ("cell a = 1/cell b = 1/cell c = 1/kept p/if a == 1/else/give b/end/give 1/end/"
              "kept q/let u = b/give peek c/end/effect e/tell q/set a = peek c/note c/end/"
              "handler h x/set c = 3/end/handler k x y/let u = 3/if q != u/if p == a/set a = y/end/"
              "set c = p/set b = y/set a = p/end/end")
# Calls of p and q alone lead to more than 500 events behind rows of three, not of two events.
WIDE = ("cell a = 0/cell b = 0/cell c = 0/cell d = 0/{}handler p x y/batch/set a = x/set b = y/end/end/"
        "handler q x y/batch/set c = x/set d = y/end/end")


class TooManyEvents(unittest.TestCase):
    def total(self, text):
        rows = FastRows(text)
        while rows.level:
            rows.go_on()
        return sum(rows.events)

    def test_five_hundred_and_one_more(self):
        self.assertEqual(self.total(EVENTS_500), 500)
        self.assertIsNone(too_many(EVENTS_500))
        self.assertEqual(self.total(EVENTS_501), 501)
        self.assertEqual(too_many(EVENTS_501), "events")

    def test_wide_books(self):
        rows = FastRows(WIDE.format("effect e/end/"))
        rows.go_on()
        rows.go_on()
        self.assertLessEqual(sum(rows.events[:2]), 500)
        self.assertGreater(sum(rows.events), 500)
        self.assertEqual(too_many(WIDE.format("effect e/end/")), "events")

    def test_a_fault_in_a_shorter_row_comes_first(self):
        for effect, many in (("tell peek b/if peek b == 0/set b = 1/end", 1),
                             ("tell peek d", 2), ("note b/if a == 0/note d/end/tell peek d", 3)):
            text = WIDE.format(f"effect e/{effect}/end/")
            self.assertEqual(len(judge(book_of(text))), many)
            self.assertEqual(too_many(text), "events")

    def test_it_comes_ahead_of_a_fault_in_the_same_level(self):
        # A shortest row with the fault has four events: a and c must both be set before d is.
        text = WIDE.format("effect e/if a == 0/note d/else/if c == 0/note d/end/end/tell peek d/end/")
        self.assertEqual(too_many(text, ("fresh",)), "events")
        row = (("start", ()), ("call", "p", (1, 0), ()), ("call", "q", (1, 0), ()),
               ("call", "q", (1, 1), ()))
        self.assertEqual(replay(book_of(text), row).faults, [("fresh", "e")])
        self.assertNotIn(("fresh", "e"), replay(book_of(text), row[:-1]).faults)

    def test_in_both_orders(self):
        for order in ("book", "any"):
            self.assertEqual(too_many(WIDE.format("effect e/end/"), ("ends",), order), "events")
            self.assertEqual(too_many(EVENTS_501, (), order), "events")


FIRST = "if t == 1/set t = 0/end/end/"
# Two and three effects of which the first to run takes the cause from the others.
TWO = f"cell t = 0/cell a = 0/effect e/{FIRST}effect f/{FIRST}"
THREE = f"{TWO}effect g/{FIRST}"
START_8 = ("cell a = 0/cell b = 0/cell c = 0/effect e/note a/set a = b/end/effect f/note a/end/"
           "effect g/set c = b/set b = 1/end")
START_9 = ("cell a = 0/cell b = 0/effect e/if a == b/set a = 1/end/end/effect f/note b/set b = a/end/"
           "effect g/set a = 0/end")


class TooManyWays(unittest.TestCase):
    def test_eight_and_nine(self):
        text = TWO + "handler h" + "/set t = 1" * 3 + "/end"
        self.assertIsNone(too_many(text, (), "any"))
        text = THREE + "handler h" + "/set t = 1" * 2 + "/end"
        self.assertEqual(too_many(text, (), "any"), "ways")
        self.assertIsNone(too_many(text, (), "book"))

    def test_the_start(self):
        self.assertIsNone(too_many(START_8, (), "any"))
        self.assertEqual(too_many(START_9, (), "any"), "ways")
        self.assertIsNone(too_many(START_9, (), "book"))

    def test_it_comes_ahead_of_a_fault_of_the_start(self):
        text = START_9.replace("effect g", "effect g/tell peek a")
        self.assertEqual(too_many(text, ASKS, "any"), "ways")
        self.assertEqual(len(judge(book_of(text), asks=ASKS)), 1)

    def test_a_fault_of_the_start_comes_ahead_of_ways_behind_it(self):
        text = THREE + "handler h/set t = 1/set t = 1/end"
        text = text.replace("effect g/", "effect g/tell peek a/set a = 1/")
        self.assertEqual(len(judge(book_of(text), asks=("fresh",), order="any")), 1)
        self.assertEqual(too_many(text, ("ends",), "any"), "ways")

    def test_it_comes_ahead_of_a_fault_in_the_same_level(self):
        text = THREE.replace("effect g/", "effect g/tell peek a/")
        stale = "handler k x/set a = x/end/"
        for handlers in (stale + "handler h/set t = 1/set t = 1/end",
                         "handler h/set t = 1/set t = 1/end/" + stale[:-1]):
            self.assertEqual(too_many(text + handlers, ("fresh",), "any"), "ways")
            self.assertEqual(len(judge(book_of(text + handlers), asks=("fresh",))), 2)

    def test_a_fault_in_a_shorter_row_comes_first(self):
        text = THREE.replace("effect g/", "effect g/tell peek a/")
        text += "handler k x/set a = x/end/handler h/if a != 0/set t = 1/set t = 1/end/end"
        self.assertEqual(len(judge(book_of(text), asks=("fresh",), order="any")), 2)
        self.assertEqual(too_many(text, ("ends",), "any"), "ways")

    def test_too_many_events_come_ahead_of_too_many_ways_in_a_level(self):
        head = ("cell t = 0/cell a = 0/cell b = 0/cell c = 0/"
                f"effect e/{FIRST}effect f/{FIRST}effect g/{FIRST}"
                "handler p x y/batch/set a = x/set b = y/end/end/handler q x/set c = x/end/"
                "handler r/if a != 0/{}set t = 1/set t = 1/end/end{}")
        # Behind rows of two events a is set; behind rows of three c is, too, as in the other.
        self.assertEqual(too_many(head.format("", ""), (), "any"), "ways")
        self.assertEqual(too_many(head.format("if c != 0/", "/end"), (), "any"), "events")
        self.assertEqual(too_many(head.format("", ""), (), "book"), "events")


if __name__ == "__main__":
    unittest.main()
