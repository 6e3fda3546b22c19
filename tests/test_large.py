"""The interface of looker.py where tables are large, or their reports long."""

import random
import unittest
from unittest import mock

from tests.chance import Chance
from tests.samples import book_of
from trackedreads import looker
from trackedreads.errors import Ring, TooMany
from trackedreads.judging import judge
from trackedreads.looker import is_certificate
from trackedreads.play import Play
from trackedreads.states import canonical, events, start_ways, ways

TELL = "cell a = 0/effect e/tell a/end/handler h x/set a = x/end"
ASKS = ("ends", "whole", "lean", "fresh")


def looked(book, table, asks=(), order="book"):
    """What is_certificate answers, or what TooMany tells."""
    try:
        return is_certificate(book, ("kept", table), asks=asks, order=order)
    except TooMany as why:
        return why.what


def long_state(report, cell=0, notes=()):
    return ((cell,), (), ((tuple(report), notes, None),))


class Slowly:
    """The same look event by event, with a play for each, in the words of the interface."""

    def __init__(self, book, table, asks, order):
        self.book = book
        self.table = table
        self.asks = asks
        self.order = order

    def answer(self):
        try:
            steps = [(None, None)] + [(held, event) for held in self.table
                                      for event in events(self.book, held)]
            if len(steps) - 1 > 1000:
                return "events"
            # All of them, whatever one of them says.
            return all([self.stays(held, event) for held, event in steps])
        except TooMany as why:
            return why.what

    def ways(self, held, event):
        if self.order == "book":
            return [()]
        return start_ways(self.book) if held is None else ways(self.book, held, event)

    def stays(self, held, event):
        return all([self.stays_by(held, event, picks) for picks in self.ways(held, event)])

    def stays_by(self, held, event, picks):
        try:
            if held is None:
                play = Play(self.book, picks=picks)
            else:
                play = Play(self.book, state=held)
                play.do(event[:-1] + (picks,))
        except Ring:
            return "ends" not in self.asks
        if any(ask in self.asks for ask, _ in play.faults):
            return False
        return canonical(self.book, play.state()) in self.table


class LongReports(unittest.TestCase):
    def test_the_table_that_took_long(self):
        book = book_of(TELL)
        for order in ("book", "any"):
            self.assertIs(looked(book, (long_state(range(1, 999)),), (), order), False)
            self.assertEqual(looked(book, (long_state(range(1, 1000)),), (), order), "events")

    def test_the_bound_whatever_is_asked(self):
        book = book_of(TELL)
        for asks in (ASKS, ("fresh",), ["lean"]):
            for order in ("book", "any"):
                self.assertIs(looked(book, (long_state(range(1, 999)),), asks, order), False)
                self.assertEqual(looked(book, (long_state(range(1, 1000)),), asks, order), "events")

    def test_such_tables_that_are_certificates(self):
        start = long_state(())
        same = "cell a = 0/effect e/end/handler h x/end"
        back = "cell a = 0/effect e/end/handler h x/set a = x/set a = 0/end"
        pair = "cell a = 0/effect e/end/handler h x y/if x == y/set a = 0/end/end"
        for text, report in ((same, range(1, 995)), (back, range(1, 995)),
                             (pair, tuple(range(1, 30)) * 40)):
            for order in ("book", "any"):
                table = (start, long_state(report))
                self.assertIs(looked(book_of(text), table, ("ends", "lean"), order), True)
                self.assertIs(looked(book_of(text), table[1:], ("ends",), order), False)
                self.assertIs(looked(book_of(text), table, ("fresh",), order), False)

    def test_reports_that_get_other_names(self):
        # The cells change places, which leads to a state that is canonical no more.
        text = "cell a = 0/cell b = 0/effect e/end/handler h x/let t = a/set a = b/set b = t/end"
        start = ((0, 0), (), (((), (), None),))
        for report, is_one in ((range(3, 990), True), (range(1, 990), False),
                               ((1, 2, 1) + tuple(range(3, 900)), False), ((0,) * 900, True)):
            table = (start, ((1, 2), (), ((tuple(report), (), None),)))
            for order in ("book", "any"):
                self.assertIs(looked(book_of(text), table, ("ends",), order), is_one)
        one = ((1, 2), (), (((1, 2, 3), (), None),))
        other = ((1, 2), (), (((2, 1, 3), (), None),))
        self.assertIs(looked(book_of(text), (start, one, other)), True)

    def test_what_differs_late(self):
        book = book_of("cell a = 0/effect e/end/handler h x/set a = x/end")
        start = (long_state(()), long_state((), 1))
        for at in (1, 2, 400):
            report = (0,) * 400 + tuple(range(1, at))
            self.assertIs(looked(book, start + (long_state(report), long_state(report, 1))), at < 2)

    def test_that_few_states_are_named_anew(self):
        for text, table in ((TELL, (long_state(range(1, 999)),)),
                            ("cell a = 0/effect e/end/handler h x/end",
                             (long_state(()), long_state(range(1, 900))))):
            for order in ("book", "any"):
                with mock.patch.object(looker, "canonical_of", wraps=looker.canonical_of) as named:
                    looked(book_of(text), table, (), order)
                self.assertLess(named.call_count, 8)


class TooManyWays(unittest.TestCase):
    first = "if t == 1/set t = 0/end/end/"
    # Three effects are due in each of two settlings, for the calls that let t be 1: nine ways.
    text = (f"cell t = 0/effect e/{first}effect f/{first}effect g/{first}"
            "handler k x/end/handler h/set t = 1/set t = 1/end")

    def table(self, reports):
        notes = (("t", 0),)
        return tuple(((0,), (), ((tuple(report), notes, None), ((), notes, None), ((), notes, None)))
                     for report in reports)

    def test_behind_a_thousand_events(self):
        book = book_of(self.text)
        for many in (900, 994):
            table = self.table([range(2, many), ()])
            for asks in ((), ASKS):
                self.assertIs(looked(book, table, asks), not asks)
                self.assertEqual(looked(book, table, asks, "any"), "ways")
                self.assertEqual(looked(book, table[:1], asks, "any"), "ways")
                self.assertIs(looked(book, table[:1], asks), False)

    def test_more_events_come_ahead(self):
        book = book_of(self.text)
        table = self.table([range(2, 995), ()])
        for states in (table, table[::-1]):
            for order in ("book", "any"):
                self.assertEqual(looked(book, states, (), order), "events")


class AgainstSlowLooks(unittest.TestCase):
    def spoilt(self, draw, table):
        """Tables beside this one: some states left out, some with other reports."""
        yield table
        for _ in range(3):
            yield tuple(held for held in table if draw.random() < 0.9)
            yield self.with_reports(draw, table)

    def with_reports(self, draw, table):
        report = draw.choice(((), (0,), (1, 5), (5,) * 60, tuple(range(20, 60))))
        more = [(values, kept, ((report, *entry[1:]), *others))
                for values, kept, (entry, *others) in table]
        return table + tuple(more)

    def test_many_books(self):
        answers = []
        for seed in range(120):
            draw = random.Random(seed)
            book = Chance(draw).book()
            order = draw.choice(("book", "any"))
            asks = [ask for ask in ASKS if draw.random() < 0.3]
            try:
                table = judge(book, asks=(), order=draw.choice(("book", order))).certificate[1]
            except TooMany:
                continue
            for states in self.spoilt(draw, table[:25]):
                named = {canonical(book, held): True for held in states}
                states = tuple(named)
                with self.subTest(seed=seed):
                    answer = looked(book, states, asks, order)
                    self.assertEqual(answer, Slowly(book, states, asks, order).answer())
                    answers.append(answer)
        for answer in (True, False, "ways", "events"):
            self.assertGreater(answers.count(answer), 1, answer)


if __name__ == "__main__":
    unittest.main()
