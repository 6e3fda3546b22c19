"""Point 35: certificates of likeness, and is_likeness in the interface of comparing.py."""

import random
import unittest

from tests.samples import book_of
from tests.test_large import long_state
from tests.twins import twins_by
from trackedreads import comparing
from trackedreads.comparing import alike, is_likeness, joint
from trackedreads.errors import TooMany, Unlike

START = ("start", ())
TELL = "cell a = 0/effect e/tell a/end/handler h x/set a = x/end"
STALE = TELL.replace("tell a", "tell peek a")
CALL = ("call", "h", (1,), ())
WAITS = "cell a = 0/effect e/wait/tell a/end/effect f/end/handler h x/set a = x/end"
STILL = WAITS.replace("wait/tell a/", "")


def looked(one, other, thing, by="reports"):
    """What is_likeness answers, or what TooMany tells."""
    try:
        return is_likeness(book_of(one), book_of(other), thing, by=by)
    except TooMany as why:
        return why.what


def spoilt(thing):
    """The value with one of its parts changed, left out or doubled, in every place."""
    for other in (None, False, True, 7, -1, "zz", (), [], ((),)):
        if other.__class__ is not thing.__class__ or other != thing:
            yield other
    if isinstance(thing, tuple):
        yield list(thing)
        for at, part in enumerate(thing):
            yield thing[:at] + thing[at + 1:]
            yield thing[:at] + (part,) + thing[at:]
            for other in spoilt(part):
                yield thing[:at] + (other,) + thing[at + 1:]


class OfAlike(unittest.TestCase):
    def test_certificates_of_many_pairs(self):
        kinds = []
        for seed in range(150):
            draw = random.Random(seed)
            one, other = twins_by(draw)
            by = draw.choice(("reports", "rests"))
            try:
                thing = alike(one, other, by=by).certificate
            except TooMany:
                continue
            kinds.append(thing[0])
            with self.subTest(seed=seed):
                self.assertIs(is_likeness(one, other, thing, by=by), True)
                self.spoil(draw, one, other, by, thing)
        self.assertGreater(kinds.count("alike"), 20)
        self.assertGreater(kinds.count("parted"), 20)

    def spoil(self, draw, one, other, by, thing):
        kind, shown = thing
        others = [thing[::-1], list(thing), thing[:1], thing + (shown,), (kind, list(shown)),
                  (kind, shown + (None,)), ("alike" if kind == "parted" else "parted", shown),
                  (kind.upper(), shown)]
        if kind == "alike" and shown:
            at = draw.randrange(len(shown))
            others += [(kind, shown[:at] + shown[at + 1:]), (kind, shown + shown[at:at + 1]),
                       (kind, shown[:at] + (list(shown[at]),) + shown[at + 1:]),
                       (kind, shown[:at] + (shown[at][::-1][:1],) + shown[at + 1:])]
        if kind == "parted":
            others += [(kind, shown[:-1]), (kind, shown[1:]), (kind, shown + shown[-1:]),
                       (kind, shown[:-1] + (list(shown[-1]),)),
                       (kind, shown[:-1] + (shown[-1][:-1] + ((0,),),))]
        for wrong in others:
            self.assertIs(is_likeness(one, other, wrong, by=by), False, wrong)
        if kind == "alike":
            mixed = tuple(draw.sample(shown, len(shown)))
            self.assertIs(is_likeness(one, other, (kind, mixed), by=by), True)


class Tables(unittest.TestCase):
    other = "cell b = 0/kept p/give b/end/effect e/tell p/end/handler h y/set b = y/end"

    def table(self):
        return alike(book_of(TELL), book_of(self.other)).certificate[1]

    def test_in_any_order(self):
        table = self.table()
        self.assertEqual(len(table), 2)
        self.assertIs(looked(TELL, self.other, ("alike", table)), True)
        self.assertIs(looked(TELL, self.other, ("alike", table[::-1])), True)

    def test_the_books_in_the_other_order(self):
        self.assertIs(looked(self.other, TELL, ("alike", self.table())), False)
        turned = tuple(held[::-1] for held in self.table())
        self.assertIs(looked(self.other, TELL, ("alike", turned)), True)

    def test_larger_ones_that_are_closed(self):
        text = "cell a = 0/effect e/end/handler h x/set a = x/end"
        table = alike(book_of(text), book_of(text)).certificate[1]
        more = table
        for report in ((), (0,), (1,), (2, 3)):
            for cell in (0, 1):
                pair = (long_state(report, cell), long_state((1, 1), cell))
                more += (joint(book_of(text), book_of(text), pair),)
        closed = closure(text, more)
        self.assertGreater(len(closed), len(table))
        self.assertIs(looked(text, text, ("alike", closed)), True)
        # By their rests the last reports must be the same.
        self.assertIs(looked(text, text, ("alike", closed), "rests"), False)
        self.assertIs(looked(text, text, ("alike", table), "rests"), True)

    def test_larger_ones_that_are_not_closed(self):
        text = "cell a = 0/effect e/end/handler h x/set a = x/end"
        table = alike(book_of(text), book_of(text)).certificate[1]
        more = (long_state((0,), 0), long_state((0,), 0))
        self.assertIs(looked(text, text, ("alike", table + (more,))), False)

    def test_a_state_of_which_an_event_parts_the_books(self):
        # The first book is due in this state, the second is not.
        due = (long_state((0,), 0, (("a", 1),)), long_state((0,), 0, (("a", 0),)))
        table = alike(book_of(TELL), book_of(TELL)).certificate[1]
        self.assertIs(looked(TELL, TELL, ("alike", table + (due,))), False)
        # A call with 1 leaves the note of 1 as it is.
        stale = long_state((0,), 1, (("a", 1),))
        both = ((due[0], due[0]), (stale, stale))
        self.assertIs(looked(TELL, TELL, ("alike", table + both)), True)
        self.assertIs(looked(TELL, TELL, ("alike", table + both[:1])), False)

    def test_the_state_of_the_start_must_be_there(self):
        self.assertIs(looked(TELL, TELL, ("alike", ())), False)
        self.assertIs(looked(TELL, TELL, ("alike", self.table()[1:])), False)

    def test_a_start_that_parts_them(self):
        other = TELL.replace("= 0", "= 1")
        self.assertIs(looked(TELL, other, ("alike", ())), False)
        self.assertIs(looked(TELL, other, ("alike", self.table())), False)

    def test_an_endless_start(self):
        ring = "cell a = 0/effect e/if a == 0/set a = 1/else/set a = 0/end/end/handler h/end"
        still = "cell a = 0/effect e/end/handler h/end"
        for by in ("reports", "rests"):
            self.assertIs(looked(ring, ring, ("alike", ()), by), True)
            self.assertIs(looked(ring, still, ("alike", ()), by), False)
            self.assertIs(looked(still, ring, ("parted", (START,)), by), True)
            self.assertIs(looked(ring, ring, ("parted", (START,)), by), False)
            # No state needs to be there, but those that are must be in order.
            rest = (((0,), (), (((), (("a", 0),), None),)),) * 2
            self.assertIs(looked(ring, ring, ("alike", (rest,)), by), True)
            self.assertIs(looked(ring, still, ("alike", (rest,)), by), False)

    def test_resumes_where_one_waits(self):
        for by, is_one in (("reports", False), ("rests", False)):
            thing = alike(book_of(WAITS), book_of(STILL), by=by).certificate
            self.assertEqual(thing[0], "parted")
            self.assertIs(looked(WAITS, STILL, thing, by), True)
            self.assertIs(looked(WAITS, STILL, ("alike", ()), by), is_one)
        same = alike(book_of(WAITS), book_of(WAITS)).certificate
        self.assertIs(looked(WAITS, WAITS, same), True)
        for at, held in enumerate(same[1]):
            if held[0][2][0][2] is not None:
                self.assertIs(looked(WAITS, WAITS, ("alike", same[1][:at] + same[1][at + 1:])), False)

    def test_every_place_spoilt(self):
        text = "cell a = 0/kept k/note a/give 2/end/effect e/let u = a/note k/wait/tell 2/end/" \
               "handler h x/set a = x/end"
        other = text.replace("let u", "let v")
        thing = alike(book_of(text), book_of(other)).certificate
        self.assertEqual(thing[0], "alike")
        wrong = list(spoilt(thing))
        self.assertGreater(len(wrong), 3000)
        for other_thing in wrong:
            self.assertIs(looked(text, other, other_thing), False, other_thing)


def closure(text, table):
    """The joint states of the table and all that events lead to, for a book that tells nothing."""
    book = book_of(text)
    found = {}
    new = list(table)
    while new:
        held = new.pop()
        if held in found:
            continue
        found[held] = True
        known = sorted({*book.numbers} | {n for (n,), _, _ in held} | {
            n for _, _, ((told, _, _),) in held for n in told})
        for value in [*known, max(known) + 1]:
            behind = tuple(((value,), (), effects) for _, _, effects in held)
            new.append(joint(book, book, behind))
    return tuple(found)


class RowsThatPart(unittest.TestCase):
    row = (START, CALL)

    def check(self, is_one, row, one=TELL, other=STALE, by="reports"):
        self.assertIs(looked(one, other, ("parted", row), by), is_one, row)

    def test_the_row_of_alike_and_longer_ones(self):
        still = ("call", "h", (0,), ())
        self.check(True, self.row)
        self.check(True, (START, still, CALL))
        self.check(True, (START,) + (still,) * 30 + (CALL,))
        for worth in (1, -1, 10 ** 60 - 1, 2):
            self.check(True, (START, ("call", "h", (worth,), ())))

    def test_the_last_event_parts_them_and_no_other_one(self):
        self.check(False, (START,))
        self.check(False, (START, ("call", "h", (0,), ())))
        self.check(False, self.row + (CALL,))
        self.check(False, self.row + (("call", "h", (2,), ()),))
        self.check(False, self.row, TELL, TELL)
        self.check(True, self.row, by="rests")
        self.check(False, (START, CALL, ("call", "h", (2,), ())), by="rests")

    def test_wrong_rows(self):
        for row in (None, True, 0, "", (), [], [START, CALL], (CALL,), (START, START), (START, None, CALL),
                    (START, CALL[:3]), (START, list(CALL)), (START, ("call", "z", (1,), ())),
                    (START, ("call", "h", (), ())), (START, ("call", "h", (1, 1), ())),
                    (START, ("resume", "e", ())), (["start", ()], CALL), (START, ("call", "h", [1], ())),
                    (START, ("call", "h", (1,), [])), (START, ("call", "h", (True,), ())),
                    (START, ("call", "e", (1,), ())), (START, ("call", ["h"], (1,), ())),
                    (START, ("resume", "zz", ()), CALL), (("start",), CALL), (START + ((),), CALL),
                    (START, ("calls", "h", (1,), ()))):
            self.check(False, row)

    def test_all_picks_are_empty(self):
        for row in ((("start", (0,)), CALL), (START, ("call", "h", (1,), (0,))),
                    (START, ("call", "h", (0,), (0,)), CALL), (("start", None), CALL)):
            self.check(False, row)

    def test_resumes(self):
        resume = ("resume", "e", ())
        self.check(True, (START, resume), WAITS, STILL, "rests")
        self.check(True, (START, resume), STILL, WAITS, "rests")
        # The start tells a report of e in one of them alone.
        self.check(True, (START,), WAITS, STILL)
        self.check(False, (START, resume), WAITS, STILL)
        self.check(False, (START, resume), WAITS, WAITS)
        twice = WAITS.replace("wait/", "wait/wait/")
        self.check(True, (START, resume), WAITS, twice)
        self.check(False, (START, resume, resume), WAITS, twice)
        self.check(True, (START, resume, resume), WAITS, twice.replace("tell a/", "tell 5/"), "rests")
        self.check(False, (START, resume), WAITS, twice, "rests")
        # It waits in neither of them any more, and f never does.
        self.check(False, (START, resume, resume, resume), WAITS, twice, "rests")
        self.check(False, (START, ("resume", "f", ())), WAITS, twice)

    def test_endless_events(self):
        ring = ("cell a = 2/effect e/if a == 1/set a = 0/else/if a == 0/set a = 1/end/end/end/"
                "handler h x/set a = x/end")
        still = "cell a = 2/effect e/note a/end/handler h x/set a = x/end"
        for by in ("reports", "rests"):
            self.check(True, self.row, ring, still, by)
            self.check(True, self.row, still, ring, by)
            self.check(False, self.row, ring, ring, by)
            self.check(False, self.row + (CALL,), ring, still, by)
        # They are endless in both, so that the row is over there.
        tells = ring.replace("if a == 1", "if a == 5/tell 1/end/if a == 1")
        self.check(False, self.row + (("call", "h", (5,), ()),), ring, tells)
        self.check(True, (START, ("call", "h", (5,), ())), ring, tells)


class OtherValues(unittest.TestCase):
    def test_values_of_every_other_kind(self):
        for thing in (None, True, False, 0, 10 ** 60, "", "alike", [], (), ("alike",), ("parted",),
                      ("alike", None), ("alike", True), ("alike", "ab"), ("alike", 0), ("alike", []),
                      ["alike", ()], ("alike", (), ()), (("alike", ()),), (None, ()), (True, ()),
                      ("parted", ()), ["parted", (START, CALL)], ("", ()), ((),) * 2, [[]] * 2,
                      ("alike", ((),)), ("alike", (((), ()),)), ("kept", ()), ("broken", (START,)),
                      tuple(range(9000)), ("alike", tuple(range(9000))), ("parted", tuple(range(9000))),
                      ("parted", (START, CALL), "e"), ("alike", ((long_state(()),),))):
            for by in ("reports", "rests"):
                self.assertIs(looked(TELL, STALE, thing, by), False)

    def test_unlike_books(self):
        for thing in (None, ("alike", ()), ("parted", (START,))):
            for other, what in (("cell a = 0/effect e/end", "handlers"),
                                ("cell a = 0/effect f/end/handler h x/end", "effects"),
                                ("cell a = 0/effect f/end", "handlers")):
                with self.assertRaises(Unlike) as caught:
                    is_likeness(book_of(TELL), book_of(other), thing)
                self.assertEqual(caught.exception.what, what)

    def test_by_default_by_reports(self):
        other = "cell a = 0/effect e/note a/tell 0/end/handler h x/set a = x/end"
        one = "cell a = 0/effect e/tell 0/end/handler h x/end"
        thing = ("parted", (START, CALL))
        self.assertIs(is_likeness(one=book_of(one), other=book_of(other), thing=thing), True)
        self.assertIs(looked(one, other, thing, "rests"), False)
        with self.assertRaises(TypeError):
            is_likeness(book_of(one), book_of(other), thing, "rests")
        self.assertEqual(is_likeness.__module__, comparing.__name__)


class Bounds(unittest.TestCase):
    # Each joint state has one event, which leads to the state itself.
    text = "cell a = 0/effect e/end/handler h/end"

    def table(self, many, first=0):
        return tuple((long_state((0,) * at), long_state(())) for at in range(first, first + many))

    def test_a_thousand_events_and_one_more(self):
        self.assertIs(looked(self.text, self.text, ("alike", self.table(1000))), True)
        self.assertEqual(looked(self.text, self.text, ("alike", self.table(1001))), "events")

    def test_whether_or_not_it_would_be_a_certificate(self):
        for by in ("reports", "rests"):
            for table in (self.table(1001), self.table(1001, 1)):
                self.assertEqual(looked(self.text, self.text, ("alike", table), by), "events")
            self.assertIs(looked(self.text, self.text, ("alike", self.table(1000, 1)), by), False)
        self.assertIs(looked(self.text, self.text, ("alike", self.table(1000)), "rests"), False)

    def test_not_for_what_has_another_form(self):
        table = self.table(1001)
        for thing in (("alike", table + table[:1]), ("alike", table + (None,)), ("alike", list(table)),
                      ("parted", table), ("alike", table, table), ["alike", table],
                      ("alike", table + ((long_state((), 5), long_state(())),)),
                      ("alike", table + (table[0][:1],))):
            self.assertIs(looked(self.text, self.text, thing), False)

    def test_events_count_each(self):
        text = "cell a = 0/effect e/end/handler h x/end"
        start = (long_state(()), long_state(()))
        for many, told in ((996, True), (997, "events")):
            # The start has two events, the other one for each known value and one more.
            wide = (long_state(range(1, 500)), long_state(range(1, many + 1)))
            self.assertIs(looked(text, text, ("alike", (start, wide))), told)

    def test_resumes_count_once(self):
        text = "cell a = 0/effect e/wait/end"
        waiting = tuple((((0,), (), (((0,) * at, (), (0, (), ())),)),) * 2 for at in range(1000))
        self.assertIs(looked(text, text, ("alike", waiting)), False)
        more = waiting + ((((0,), (), ((None, (), (0, (), ())),)), waiting[0][0]),)
        self.assertEqual(looked(text, text, ("alike", more)), "events")
        # A state without an effect that waits has no events.
        self.assertIs(looked(text, text, ("alike", waiting + self.table(100))), False)


if __name__ == "__main__":
    unittest.main()
