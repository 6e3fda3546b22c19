"""Point 28 and the interface of looker.py."""

import itertools
import random
import unittest

from tests.chance import Chance
from tests.samples import EXAMPLE, FULL, book_of
from trackedreads import looker
from trackedreads.books import Book
from trackedreads.errors import BadAsk, TooMany
from trackedreads.judging import judge
from trackedreads.looker import is_certificate

ASKS = ("ends", "whole", "lean", "fresh")
START = ("start", ())
GOOD = "cell a = 0/effect e/tell a/end/handler h x/set a = x/end"
STALE = "cell a = 0/effect e/tell peek a/end/handler h x/set a = x/end/handler k/end"
HALF = ("cell a = 0/cell b = 0/effect d/set b = a/end/effect e/tell a/tell b/end/"
        "handler h x/set a = x/end")
ENDLESS = "cell a = 0/effect e/if a == 0/set a = 1/else/set a = 0/end/end/handler k/end"
FIRST = "if t == 1/set t = 0/end/end/"


def told_state(told, noted=0, a=0):
    """A state of a book with a cell and an effect that notes it."""
    return ((a,), (), ((told, (("a", noted),), None),))


class OfJudge(unittest.TestCase):
    def test_certificates_of_many_books(self):
        for seed in range(250):
            draw = random.Random(seed)
            book = Chance(draw).book()
            order = draw.choice(("book", "any"))
            asks = [ask for ask in ASKS if draw.random() < 0.4]
            try:
                thing = judge(book, asks=asks, order=order).certificate
            except TooMany:
                continue
            with self.subTest(seed=seed):
                self.assertIs(is_certificate(book, thing, asks=asks, order=order), True)
                self.spoil(draw, book, thing, asks, order)

    def spoil(self, draw, book, thing, asks, order):
        """What lies beside a certificate is none."""
        others = [thing[::-1], list(thing), thing[1:], thing + (thing[1],), ("kept",) * len(thing)]
        if thing[0] == "kept":
            table = thing[1]
            if table:
                at = draw.randrange(len(table))
                others += [("kept", table[:at] + table[at + 1:]), ("kept", table + table[at:at + 1]),
                           ("kept", list(table)), ("kept", table[:at] + (list(table[at]),)
                                                   + table[at + 1:])]
            others += [("kept", table + (None,)), ("Kept", table), ("broken", table)]
        else:
            _, row, ask, effect = thing
            others += [("broken", row[1:], ask, effect), ("broken", list(row), ask, effect),
                       ("broken", row, ask, "zz"), ("broken", row, "zz", effect),
                       ("broken", row, ask), ("kept", row), ("kept", row, ask, effect),
                       ("broken", row + (row[0],), ask, effect)]
            # A row that is a shortest one has no fault earlier.
            others += [("broken", row[:-1], ask, effect)]
        for other in others:
            self.assertIs(is_certificate(book, other, asks=asks, order=order), False, other)


class Tables(unittest.TestCase):
    def check(self, is_one, text, table, asks=("ends", "fresh"), order="book"):
        self.assertIs(is_certificate(book_of(text), ("kept", table), asks=asks, order=order), is_one)

    def test_in_any_order(self):
        book = Book.read(FULL)
        table = judge(book).certificate[1]
        for seed in range(5):
            other = random.Random(seed).sample(table, len(table))
            self.assertIs(is_certificate(book, ("kept", tuple(other))), True)

    def test_larger_ones_that_are_closed(self):
        table = judge(book_of(GOOD)).certificate[1]
        self.check(True, GOOD, table)
        # Behind each event of these states there is one of the table; none has a fault.
        self.check(True, GOOD, table + (told_state((1, 2)),), ("ends",))
        self.check(True, "cell a = 0/effect e/end/handler h/end", (
            ((0,), (), (((), (), None),)), ((0,), (), (((), (("a", 0),), None),)),
            ((1,), (), (((), (("a", 1),), None),))))

    def test_larger_ones_that_are_not_closed_or_have_faults(self):
        table = judge(book_of(GOOD)).certificate[1]
        # A stale report stays behind a call that changes nothing.
        self.check(False, GOOD, table + (told_state((1, 2)),), ("fresh",))
        self.check(False, GOOD, table + (told_state((5,))[:2] + (((5,), (), None),),), ("ends",))
        # The call with 1 makes nothing due: the note is of 1 already.
        self.check(False, GOOD, table + (told_state((0,), 1),), ("ends",))

    def test_a_state_of_the_table_that_has_lean_faults(self):
        table = judge(book_of(GOOD)).certificate[1]
        more = table + (told_state((0,), 1),) + (told_state((0,), 1, 1),)
        self.check(True, GOOD, more, ())
        self.check(False, GOOD, more, ("lean",))

    def test_the_state_of_the_start_must_be_there(self):
        self.check(False, GOOD, ())
        self.check(False, "cell a = 0/effect e/tell a/end", (told_state((0, 0)),))
        self.check(True, "cell a = 0/effect e/tell a/end", (told_state((0,)),))
        self.check(True, "cell a = 0/effect e/tell a/end", (told_state((0,)), told_state((0, 0))))

    def test_a_fault_of_the_start(self):
        text = "cell a = 0/effect e/tell peek a/end/effect f/set a = 1/end"
        table = judge(book_of(text), asks=()).certificate[1]
        self.check(True, text, table, ("ends", "lean"))
        self.check(False, text, table, ("fresh",))
        self.check(False, text, table, ("whole",))

    def test_an_endless_start(self):
        for order in ("book", "any"):
            self.check(True, ENDLESS, (), ("whole", "lean", "fresh"), order)
            self.check(False, ENDLESS, (), ("ends",), order)
            # No state needs to be there, but those that are must be in order.
            self.check(True, ENDLESS, (told_state((), 0),), (), order)
            self.check(False, ENDLESS, (told_state((), 0),), ("ends",), order)
            self.check(False, ENDLESS, (((True,), (), ()),), (), order)

    def test_each_way_counts_in_any_order(self):
        table = judge(book_of(HALF), asks=("whole",)).certificate[1]
        self.check(True, HALF, table, ("whole",))
        self.check(False, HALF, table, ("whole",), "any")
        wide = judge(book_of(HALF), asks=(), order="any").certificate[1]
        self.check(True, HALF, wide, (), "any")
        self.check(False, HALF, wide, ("whole",), "any")

    def test_spoilt_entries(self):
        table = judge(book_of(GOOD)).certificate[1]
        first, second = table
        for other in (None, True, 0, "kept", [], (), list(second), second[:2], second + ((),),
                      ((True,), (), (((1,), (("a", 1),), None),)),
                      ((1,), (), (((True,), (("a", 1),), None),)),
                      ((1,), (), (((1,), (("a", True),), None),)),
                      ((1,), (), (([1], (("a", 1),), None),)),
                      ((1,), (), (((1,), [("a", 1)], None),)),
                      ((1,), (), (((1,), (["a", 1],), None),)),
                      ((1,), [], (((1,), (("a", 1),), None),)),
                      ((2,), (), (((2,), (("a", 2),), None),)),
                      ((10 ** 59,), (), (((10 ** 59,), (("a", 10 ** 59),), None),)),
                      ((1,), (), (((2,), (("a", 1),), None),)), first):
            self.check(False, GOOD, (first, other))
            self.check(False, GOOD, (first, second, other))

    def test_every_place_of_a_table_spoilt(self):
        text = ("cell a = 0/kept k/note a/give 2/end/effect e/let u = a/tell u/note k/wait/tell 2/end/"
                "handler h x/set a = x/end")
        book = book_of(text)
        thing = judge(book).certificate
        self.assertEqual(thing[0], "kept")
        spoilt = list(self.spoilt(thing))
        self.assertGreater(len(spoilt), 1000)
        for other in spoilt:
            self.assertIs(is_certificate(book, other), False, other)

    def spoilt(self, thing):
        for other in (None, False, True, 7, -1, "zz", (), [], ((),)):
            if other.__class__ is not thing.__class__ or other != thing:
                yield other
        if isinstance(thing, tuple):
            yield list(thing)
            for at, part in enumerate(thing):
                yield thing[:at] + thing[at + 1:]
                for other in self.spoilt(part):
                    yield thing[:at] + (other,) + thing[at + 1:]


class RowsThatBreak(unittest.TestCase):
    row = (START, ("call", "h", (1,), ()))

    def check(self, is_one, *thing, text=STALE, asks=("ends", "fresh"), order="book"):
        self.assertIs(is_certificate(book_of(text), thing, asks=asks, order=order), is_one)

    def test_longer_rows(self):
        self.check(True, "broken", self.row, "fresh", "e")
        self.check(True, "broken", self.row + (("call", "k", (), ()),), "fresh", "e")
        self.check(True, "broken", (START,) + (("call", "k", (), ()),) * 20 + self.row[1:], "fresh", "e")
        self.check(True, "broken", self.row + self.row[1:] * 3 + (("call", "h", (-8,), ()),), "fresh",
                   "e")
        self.check(False, "broken", self.row + (("call", "h", (0,), ()),), "fresh", "e")

    def test_other_values(self):
        for worth in (1, -1, 5, 10 ** 60 - 1):
            self.check(True, "broken", (START, ("call", "h", (worth,), ())), "fresh", "e")
        for worth in (0, True, None, "1", (1,), [1]):
            self.check(False, "broken", (START, ("call", "h", (worth,), ())), "fresh", "e")

    def test_the_fault_must_be_there_and_asked(self):
        for ask, effect in (("ends", None), ("ends", "e"), ("whole", "e"), ("lean", "e"),
                            ("fresh", "f"), ("fresh", None), ("fresh", "h"), ("fresh", ["e"]),
                            (None, "e"), (["fresh"], "e"), (True, "e"), ("", "e"), ("fresh", ("e",))):
            self.check(False, "broken", self.row, ask, effect, asks=ASKS)
        self.check(True, "broken", self.row, "fresh", "e", asks=["fresh"])
        self.check(True, "broken", self.row, "fresh", "e", asks=ASKS + ASKS)
        self.check(False, "broken", self.row, "fresh", "e", asks=("ends", "whole", "lean"))
        self.check(False, "broken", self.row, "fresh", "e", asks=())

    def test_wrong_rows(self):
        call = ("call", "h", (1,), ())
        for row in (None, True, 0, "", (), [], [START, call], (call,), (START, START),
                    (START, None, call), (START, call[:3]), (START, list(call)),
                    (START, ("call", "z", (1,), ())), (START, ("call", "h", (), ())),
                    (START, ("resume", "e", ())), (START, call, ("resume", "e", ())),
                    (["start", ()], call), (START, ("call", "h", [1], ())),
                    (START, ("call", "h", (1,), [])), (START, call, START)):
            self.check(False, "broken", row, "fresh", "e")

    def test_no_picks_in_the_order_of_the_book(self):
        for row in ((("start", (0,)), self.row[1]), (START, ("call", "h", (1,), (0,))),
                    (START, ("call", "k", (), (5,)), self.row[1])):
            self.check(False, "broken", row, "fresh", "e")
            self.check(True, "broken", row, "fresh", "e", order="any")
        for row in ((("start", (True,)), self.row[1]), (("start", None), self.row[1])):
            self.check(False, "broken", row, "fresh", "e", order="any")

    def test_picks_that_lead_to_the_fault(self):
        row = (START, ("call", "h", (1,), (1,)))
        self.check(True, "broken", row, "whole", "e", text=HALF, asks=("whole",), order="any")
        self.check(False, "broken", row, "whole", "e", text=HALF, asks=("whole",))
        self.check(False, "broken", self.row, "whole", "e", text=HALF, asks=("whole",), order="any")

    def test_endless_events(self):
        self.check(True, "broken", (START,), "ends", None, text=ENDLESS)
        self.check(False, "broken", (START,), "ends", "e", text=ENDLESS)
        self.check(False, "broken", (START,), "fresh", "e", text=ENDLESS)
        self.check(False, "broken", (START, ("call", "k", (), ())), "ends", None, text=ENDLESS)
        text = ("cell a = 0/effect e/if a != 0/if a == 1/set a = 2/else/set a = 1/end/end/end/"
                "handler h x/set a = x/end")
        self.check(True, "broken", self.row, "ends", None, text=text)
        self.check(False, "broken", self.row + self.row[1:], "ends", None, text=text)

    def test_the_example(self):
        row = (START, ("call", "h", (1,), ()), ("call", "k", (1,), ()))
        book = Book.read(EXAMPLE)
        self.assertIs(is_certificate(book, ("broken", row, "fresh", "e")), True)
        self.assertIs(is_certificate(book, ("broken", row, "lean", "e")), False)
        self.assertIs(is_certificate(book, ("broken", row[:2], "lean", "e"), asks=ASKS), True)

    def test_no_too_many_ways_for_a_row(self):
        text = f"cell t = 0/effect e/{FIRST}effect f/{FIRST}effect g/{FIRST}handler h/set t = 1/set t = 1/end"
        row = (START, ("call", "h", (), (0, 0, 2, 0)))
        self.check(False, "broken", row, "whole", "e", text=text, asks=ASKS, order="any")
        self.check(True, "broken", row, "lean", "e", text=text, asks=ASKS, order="any")


class OtherValues(unittest.TestCase):
    def test_values_of_every_other_kind(self):
        for thing in (None, True, False, 0, 10 ** 60, "", "kept", [], (), ("kept",), ("broken",),
                      ("kept", None), ("kept", True), ("kept", "ab"), ("kept", 0), ("kept", []),
                      ["kept", ()], ("kept", (), ()), ("kept", (), (), ()), (("kept", ()),),
                      (None, ()), (True, ()), ("broken", ()), ("broken", (), "fresh", "e"),
                      ["broken", (START,), "fresh", "e"], ("", (), "", ""), ((),) * 4, [[]] * 4,
                      ("kept", ((),)), ("kept", (((), (), ()),)), ("broken", (START,), "fresh", "e"),
                      tuple(range(9000)), ("kept", tuple(range(9000)))):
            for order in ("book", "any"):
                self.assertIs(is_certificate(book_of(GOOD), thing, order=order), False)

    def test_defined_in_this_file(self):
        self.assertEqual(is_certificate.__module__, looker.__name__)

    def test_by_default_as_judge(self):
        thing = judge(book_of(HALF)).certificate
        self.assertIs(is_certificate(book=book_of(HALF), thing=thing), True)
        self.assertIs(is_certificate(book_of(ENDLESS), ("kept", ())), False)
        self.assertIs(is_certificate(book_of(ENDLESS), ("kept", ()), asks=["fresh"]), True)
        with self.assertRaises(TypeError):
            is_certificate(book_of(HALF), thing, ("ends",))


class Errors(unittest.TestCase):
    def test_what_is_no_ask(self):
        for ask in (None, True, "", "end", ["ends"], ("ends",), 0):
            for thing in (None, ("kept", ()), ("broken", (START,), "ends", None), self.table(1001)):
                with self.assertRaises(BadAsk) as caught:
                    is_certificate(book_of(self.text), thing, asks=("ends", ask, "zz"))
                self.assertEqual(caught.exception.ask, ask)
                self.assertIs(caught.exception.ask.__class__, ask.__class__)

    # Each state has one event, which leads to the state itself.
    text = "cell a = 0/effect e/end/handler h/end"

    def table(self, many):
        """So many states of the book: that of the start, and others with longer reports."""
        return ("kept", tuple(((0,), (), (((0,) * at, (), None),)) for at in range(many)))

    def too_many(self, text, thing, asks=(), order="book"):
        try:
            return is_certificate(book_of(text), thing, asks=asks, order=order)
        except TooMany as why:
            return why.what

    def test_a_thousand_events_and_one_more(self):
        for order in ("book", "any"):
            self.assertIs(self.too_many(self.text, self.table(1000), (), order), True)
            self.assertEqual(self.too_many(self.text, self.table(1001), (), order), "events")

    def test_whether_or_not_it_would_be_a_certificate(self):
        # All of these states but the first have a stale report.
        self.assertIs(self.too_many(self.text, self.table(1000), ("fresh",)), False)
        self.assertEqual(self.too_many(self.text, self.table(1001), ("fresh",)), "events")
        without_start = ("kept", self.table(1002)[1][1:])
        self.assertEqual(self.too_many(self.text, without_start), "events")

    def test_not_for_what_has_another_form(self):
        kind, table = self.table(1001)
        for thing in ((kind, table + table[:1]), (kind, table + (None,)), (kind, list(table)),
                      ("broken", table), (kind, table, table), [kind, table],
                      (kind, table + (((5,), (), (((), (), None),)),))):
            self.assertIs(self.too_many(self.text, thing), False)

    def test_states_without_events_do_not_count(self):
        text = "cell a = 0/effect e/end"
        self.assertIs(self.too_many(text, self.table(3), ("ends",)), True)
        self.assertIs(self.too_many(text, self.table(1500), ("ends",)), True)

    def test_events_of_one_state_count_each(self):
        text = "cell a = 0/effect e/end/handler h x/end"
        start = ((0,), (), (((), (), None),))
        for many, told in ((997, True), (998, "events")):
            wide = ((0,), (), ((tuple(range(many)), (), None),))
            # The start has two events, the other state one for each value and one more.
            self.assertIs(self.too_many(text, ("kept", (start, wide))), told)

    # The effects e, f and g go each first in two settlings: nine ways.
    nine = (f"cell t = 0/effect e/{FIRST}effect f/{FIRST}effect g/{FIRST}"
            "handler h/set t = 1/set t = 1/end/handler k/end")

    def test_too_many_ways_of_an_event(self):
        table = judge(book_of(self.nine), asks=()).certificate
        self.assertIs(self.too_many(self.nine, table), True)
        self.assertEqual(self.too_many(self.nine, table, (), "any"), "ways")
        # Also where a way that comes earlier has a fault, or leads out of the table.
        self.assertEqual(self.too_many(self.nine, table, ("lean",), "any"), "ways")
        self.assertIs(self.too_many(self.nine, ("kept", ()), (), "any"), False)
        eight = self.nine.replace(f"effect g/{FIRST}", "").replace(
            "set t = 1/end", "set t = 1/set t = 1/end", 1)
        table = judge(book_of(eight), asks=(), order="any").certificate
        self.assertIs(self.too_many(eight, table, (), "any"), True)

    def test_too_many_ways_behind_a_state_that_is_wrong_already(self):
        table = judge(book_of(self.nine), asks=()).certificate[1]
        other = (table[0][0], (), ((None, (), None),) * 3)
        for states in itertools.permutations(table[:1] + (other,)):
            self.assertEqual(self.too_many(self.nine, ("kept", states), ("fresh",), "any"), "ways")

    def test_too_many_ways_of_the_start(self):
        text = ("cell a = 0/cell b = 0/effect e/if a == b/set a = 1/end/end/effect f/note b/set b = a/"
                "end/effect g/set a = 0/end")
        table = judge(book_of(text), asks=()).certificate
        self.assertIs(self.too_many(text, table), True)
        for thing in (table, ("kept", ())):
            self.assertEqual(self.too_many(text, thing, (), "any"), "ways")
        self.assertIs(self.too_many(text, ("kept", (None,)), (), "any"), False)

    def test_events_come_ahead_of_ways(self):
        start = judge(book_of(self.nine), asks=()).certificate[1][0]
        states = tuple((start[0], (), (((0,) * at,) + start[2][0][1:],) + start[2][1:])
                       for at in range(501))
        self.assertEqual(self.too_many(self.nine, ("kept", states), (), "any"), "events")
        self.assertEqual(self.too_many(self.nine, ("kept", states[1:]), (), "any"), "ways")


if __name__ == "__main__":
    unittest.main()
