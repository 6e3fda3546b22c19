"""Points 33 and 34, and alike in the interface of comparing.py."""

import random
import unittest

from tests.chance import event_by
from tests.samples import EXAMPLE, FULL, book_of
from tests.test_search import EVENTS_500, EVENTS_501, WIDE
from tests.twins import PlainPair, parted_at, played, twins_by
from trackedreads import comparing
from trackedreads.books import Book
from trackedreads.comparing import alike, joint
from trackedreads.errors import TooMany, Unlike
from trackedreads.judging import judge

START = ("start", ())
TELL = "cell a = 0/effect e/tell a/end/handler h x/set a = x/end"


def unlike(one, other):
    try:
        alike(book_of(one), book_of(other))
    except Unlike as why:
        return why.what
    return None


def row_of(one, other, by="reports"):
    """The row that parts the books; None if they are alike."""
    found = alike(book_of(one), book_of(other), by=by)
    return None if found else found.certificate[1]


class Comparable(unittest.TestCase):
    head = "cell a = 0/effect e/end/effect f/end"

    def test_names_and_numbers_of_parameters_in_order(self):
        text = f"{self.head}/handler h x/end/handler k/end"
        for other in ("handler h x/end", "handler h x/end/handler k/end/handler l/end",
                      "handler k/end/handler h x/end", "handler h/end/handler k/end",
                      "handler h x y/end/handler k/end", "handler h x/end/handler k x/end",
                      "handler g x/end/handler k/end"):
            self.assertEqual(unlike(text, f"{self.head}/{other}"), "handlers")
            self.assertEqual(unlike(f"{self.head}/{other}", text), "handlers")
        self.assertEqual(unlike(text, self.head), "handlers")

    def test_names_of_effects_in_order(self):
        for other in ("effect e/end", "effect f/end/effect e/end", "effect e/end/effect g/end",
                      "effect e/end/effect f/end/effect g/end"):
            self.assertEqual(unlike(self.head, f"cell a = 0/{other}"), "effects")
            self.assertEqual(unlike(f"cell a = 0/{other}", self.head), "effects")

    def test_handlers_come_first(self):
        self.assertEqual(unlike(f"{self.head}/handler h/end", "cell a = 0/effect e/end"), "handlers")
        self.assertEqual(unlike("cell a = 0/effect e/end", f"{self.head}/handler h x/end"), "handlers")

    def test_all_else_may_differ(self):
        one = f"{self.head}/handler h x y/end"
        other = ("cell b = 7/cell c = 8/kept p/give b/end/each q/give 9/end/effect e/note q/end/"
                 "effect f/wait/end/handler h u v/end")
        self.assertIsNone(unlike(one, other))
        self.assertIsNone(unlike(other, one))

    def test_ahead_of_too_many_events(self):
        wide = WIDE.format("effect e/end/")
        self.assertEqual(unlike(wide, WIDE.format("effect f/end/")), "effects")
        self.assertEqual(unlike(wide, self.head), "handlers")


class ByReports(unittest.TestCase):
    def test_the_same_book(self):
        for text in (TELL, EXAMPLE.replace("\n", "/"), FULL.replace("\n", "/")):
            found = alike(book_of(text), book_of(text))
            self.assertIs(bool(found), True)
            self.assertEqual(found.certificate[0], "alike")
            self.assertEqual(len(found), 0)
            self.assertEqual(tuple(found), found.certificate[1])

    def test_other_ways_to_the_same_reports(self):
        for other in ("cell b = 0/effect e/tell b/end/handler h y/let z = y/set b = z/end",
                      "cell a = 0/kept p/give a/end/effect e/tell p/end/handler h x/set a = x/end",
                      "cell a = 0/effect e/note a/tell peek a/end/handler h x/batch/set a = x/end/end",
                      "cell a = 0/cell b = 9/effect e/tell a/end/handler h x/set b = 9/set a = x/end"):
            self.assertIsNone(row_of(TELL, other))
            self.assertIsNone(row_of(other, TELL))

    def test_other_reports_at_the_start(self):
        for other in ("cell a = 1/effect e/tell a/end/handler h x/set a = x/end",
                      "cell a = 0/effect e/end/handler h x/set a = x/end",
                      "cell a = 0/effect e/wait/tell a/end/handler h x/set a = x/end",
                      "cell a = 0/effect e/tell a/tell a/end/handler h x/set a = x/end"):
            self.assertEqual(row_of(TELL, other), (START,))
            self.assertEqual(row_of(other, TELL), (START,))

    def test_other_reports_later(self):
        other = TELL.replace("tell a", "tell peek a")
        self.assertEqual(row_of(TELL, other), (START, ("call", "h", (1,), ())))
        # A call with the number 0 alone does not part them.
        self.assertEqual(parted_at(book_of(TELL), book_of(other),
                                   (START, ("call", "h", (0,), ())), "reports"), None)

    def test_one_more_report_that_is_the_same(self):
        other = "cell a = 0/cell b = 0/effect e/note b/tell a/end/handler h x/set a = x/set b = x/end"
        self.assertEqual(row_of(TELL, other), (START, ("call", "h", (1,), ())))
        self.assertIsNone(row_of(TELL, other, "rests"))

    def test_the_order_in_which_they_are_told(self):
        one = "cell a = 0/cell b = 0/effect e/tell a/end/effect f/tell b/end/handler h/{}end"
        first = one.format("set a = 1/set b = 1/")
        second = one.format("set b = 1/set a = 1/")
        self.assertEqual(row_of(first, second), (START, ("call", "h", (), ())))
        self.assertIsNone(row_of(first, second, "rests"))
        self.assertIsNone(row_of(first, one.format("batch/set b = 1/set a = 1/end/")))

    def test_a_row_of_several_events(self):
        one = "cell a = 0/cell b = 0/effect e/note a/tell peek b/end/handler h/set a = 1/end/" \
              "handler k x/set b = x/end"
        other = one.replace("note a", "note a/note b")
        row = row_of(one, other)
        self.assertEqual([event[:2] for event in row], [START, ("call", "k")])
        other = one.replace("note a", "if a != 0/note b/end")
        row = row_of(one, other)
        self.assertEqual([event[:2] for event in row], [START, ("call", "h"), ("call", "k")])


class ByRests(unittest.TestCase):
    def test_last_reports_alone_count(self):
        one = "cell a = 0/effect e/tell 0/end/handler h x/end"
        other = "cell a = 0/effect e/note a/tell 0/end/handler h x/set a = x/end"
        self.assertEqual(row_of(one, other), (START, ("call", "h", (1,), ())))
        self.assertIsNone(row_of(one, other, "rests"))

    def test_other_last_reports(self):
        other = TELL.replace("tell a", "tell peek a")
        self.assertEqual(row_of(TELL, other, "rests"), (START, ("call", "h", (1,), ())))
        self.assertEqual(row_of(TELL, TELL.replace("= 0", "= 1"), "rests"), (START,))

    def test_nothing_counts_while_an_effect_waits_in_one(self):
        one = "cell a = 0/effect e/tell 1/end/effect f/wait/end"
        other = one.replace("tell 1", "tell 2")
        # The resume lets both be at rest.
        self.assertEqual(row_of(one, other, "rests"), (START, ("resume", "f", ())))
        self.assertEqual(row_of(one, other.replace("/wait", ""), "rests"), (START, ("resume", "f", ())))
        self.assertEqual(row_of(one.replace("/wait", ""), other, "rests"), (START, ("resume", "f", ())))
        self.assertEqual(row_of(one.replace("/wait", ""), other.replace("/wait", ""), "rests"), (START,))

    def test_never_at_rest(self):
        # Behind each resume of e the effect f waits, and the other way round.
        text = ("cell t = 0/effect e/if t == 0/wait/set t = 1/end/tell {}/end/"
                "effect f/if t == 1/wait/set t = 0/end/end")
        self.assertIsNone(row_of(text.format(1), text.format(2), "rests"))
        self.assertIsNotNone(row_of(text.format(1), text.format(2)))


class Resumes(unittest.TestCase):
    def test_of_an_effect_that_waits_in_one(self):
        one = "cell a = 0/effect e/{}end/effect f/tell {}/end"
        waits = "wait/tell 1/"
        resume = ("resume", "e", ())
        # In the other nothing is told then.
        self.assertEqual(row_of(one.format(waits, 0), one.format("", 0)), (START,))
        quiet = "if a == 0/wait/end/tell 1/"
        self.assertEqual(row_of(one.format(quiet, 0), one.format("wait/wait/tell 1/", 0)),
                         (START, resume))
        self.assertEqual(row_of(one.format("wait/wait/tell 1/", 0), one.format(quiet, 0)),
                         (START, resume))
        self.assertEqual(row_of(one.format(waits, 0), one.format("tell 1/", 0), "rests"), None)
        self.assertEqual(row_of(one.format(waits, 0), one.format("tell 2/", 0), "rests"),
                         (START, resume))
        self.assertEqual(row_of(one.format("tell 2/", 0), one.format(waits, 0), "rests"),
                         (START, resume))

    def test_nothing_happens_in_the_other(self):
        # In the second book e waits no longer, and its set is not done once more.
        one = "cell a = 0/cell t = 0/effect e/{}end/effect f/tell a/end/handler h/set a = 0/end"
        first, second = "wait/wait/set a = 1/", "wait/set a = 1/"
        row = row_of(one.format(first), one.format(second))
        self.assertEqual(row, (START, ("resume", "e", ())))
        self.assertIsNone(parted_at(book_of(one.format(second)), book_of(one.format(second)),
                                    row + (("call", "h", (), ()),), "reports"))

    def test_no_settling_either(self):
        # Nothing is due behind a resume that passes by.
        for seed in range(40):
            draw = random.Random(seed)
            one, other = twins_by(draw)
            pair = PlainPair(one, other)
            if pair.is_over():
                continue
            for name in pair.waiting():
                passed = [play.wait[name] is None for play in pair.plays]
                before = pair.state()
                pair.do(("resume", name, ()))
                for at in (0, 1):
                    if passed[at]:
                        self.assertEqual(pair.state()[at], before[at])
                break


class Endless(unittest.TestCase):
    ring = "cell a = 0/effect e/if a == 0/set a = 1/else/set a = 0/end/end/handler h/end"
    still = "cell a = 0/effect e/end/handler h/end"
    later = ("cell a = 2/effect e/if a == 0/set a = 1/end/if a == 1/set a = 0/end/end/"
             "handler h/set a = {}/end")

    def test_in_both(self):
        for by in ("reports", "rests"):
            found = alike(book_of(self.ring), book_of(self.ring), by=by)
            self.assertIs(bool(found), True)
            self.assertEqual(found.certificate, ("alike", ()))
            # They are alike whatever they told before.
            self.assertIsNone(row_of(self.ring, self.ring.replace("effect e/", "effect e/tell a/"), by))

    def test_in_one(self):
        for by in ("reports", "rests"):
            self.assertEqual(row_of(self.ring, self.still, by), (START,))
            self.assertEqual(row_of(self.still, self.ring, by), (START,))

    def test_later(self):
        both = "cell a = 2/effect e/if a == 1/set a = 0/else/if a == 0/set a = 1/end/end/end/" \
               "handler h/set a = 1/end/handler k/end"
        tells = both.replace("effect e/", "effect e/tell 5/")
        for by in ("reports", "rests"):
            found = alike(book_of(both), book_of(both), by=by)
            self.assertEqual(len(found.certificate[1]), 1)
            self.assertEqual(row_of(both, both.replace("set a = 1/end/handler", "end/handler"), by),
                             (START, ("call", "h", (), ())))
            self.assertEqual(row_of(both, tells, by), (START,))

    def test_one_that_is_endless_while_the_other_waits(self):
        waits = self.still.replace("effect e/", "effect e/wait/")
        for by in ("reports", "rests"):
            self.assertEqual(row_of(self.ring, waits, by), (START,))
            self.assertEqual(row_of(waits, self.ring, by), (START,))


class Bounds(unittest.TestCase):
    def outcome(self, one, other, by="reports"):
        try:
            return bool(alike(book_of(one), book_of(other), by=by))
        except TooMany as why:
            return why.what

    def test_five_hundred_events_and_one_more(self):
        for by in ("reports", "rests"):
            self.assertIs(self.outcome(EVENTS_500, EVENTS_500, by), True)
            self.assertEqual(self.outcome(EVENTS_501, EVENTS_501, by), "events")

    def test_of_two_books_that_differ(self):
        self.assertIs(self.outcome(EVENTS_500, EVENTS_500.replace("kept q", "each q")), True)
        self.assertEqual(self.outcome(EVENTS_501, EVENTS_501.replace("tell q", "let z = 1/tell q")),
                         "events")
        # More values are known where one of the books writes one more number.
        more = EVENTS_500.replace("effect e/", "effect e/let z = 77/")
        self.assertEqual(self.outcome(EVENTS_500, more), "events")
        self.assertEqual(self.outcome(more, EVENTS_500), "events")

    def test_a_shorter_row_comes_first(self):
        text = WIDE.format("effect e/{}end/")
        self.assertEqual(row_of(text.format("tell a/"), text.format("tell peek a/"), "reports")[1][:2],
                         ("call", "p"))
        self.assertEqual(row_of(text.format("tell 1/"), text.format("tell 2/")), (START,))

    def test_it_comes_ahead_of_a_row_with_as_many_events(self):
        # A row that parts them needs four events: a and c must both be set before d is.
        text = WIDE.format("effect e/if a == 0/note d/else/if c == 0/note d/end/end/{}/end/")
        one, other = text.format("tell peek d"), text.format("note d/tell peek d")
        row = (START, ("call", "p", (1, 0), ()), ("call", "q", (1, 0), ()), ("call", "q", (1, 1), ()))
        self.assertEqual(parted_at(book_of(one), book_of(other), row, "reports"), 3)
        self.assertEqual(self.outcome(one, other), "events")


class Likenesses(unittest.TestCase):
    def test_what_they_tell(self):
        one, other = book_of(TELL), book_of(TELL.replace("tell a", "tell peek a"))
        found = alike(one=one, other=other, by="reports")
        self.assertIs(bool(found), False)
        self.assertEqual(found.certificate[0], "parted")
        self.assertEqual(len(found), 2)
        self.assertEqual(list(found), [])
        self.assertIsInstance(found.certificate, tuple)
        same = alike(one, one)
        self.assertEqual(len(same), 0)
        self.assertEqual(list(same), list(same.certificate[1]))
        self.assertEqual(len(list(same)), 2)

    def test_by_default_by_reports(self):
        other = TELL.replace("tell a", "note a/tell 0")
        self.assertEqual(alike(book_of(TELL), book_of(other)).certificate,
                         alike(book_of(TELL), book_of(other), by="reports").certificate)
        with self.assertRaises(TypeError):
            alike(book_of(TELL), book_of(TELL), "reports")

    def test_equal_to_nothing_else(self):
        found = alike(book_of(TELL), book_of(TELL))
        for other in (None, True, (), found.certificate, book_of(TELL), judge(book_of(TELL))):
            self.assertFalse(found == other)

    def test_defined_in_this_file(self):
        self.assertEqual({alike.__module__, joint.__module__, comparing.Likeness.__module__},
                         {comparing.__name__})
        for name in ("__bool__", "__len__", "__iter__"):
            self.assertIn(name, vars(comparing.Likeness))


class AtLarge(unittest.TestCase):
    """Verdicts over pairs of books, held against rows that the plain reading plays."""

    def test_many_pairs(self):
        answers = []
        for seed in range(260):
            draw = random.Random(seed)
            one, other = twins_by(draw)
            by = draw.choice(("reports", "rests"))
            with self.subTest(seed=seed):
                try:
                    found = alike(one, other, by=by)
                except TooMany:
                    continue
                answers.append(len(found))
                if found:
                    self.hold(draw, one, other, by, found)
                else:
                    row = found.certificate[1]
                    self.assertEqual(parted_at(one, other, row, by), len(row) - 1)
                    self.assertTrue(all(event[-1] == () for event in row))
                    self.no_shorter(one, other, by, len(row))
        self.assertGreater(answers.count(0), 20)
        self.assertGreater(sum(many > 1 for many in answers), 20)

    def hold(self, draw, one, other, by, found):
        table = found.certificate[1]
        self.assertEqual(len(set(table)), len(table))
        for _ in range(6):
            pair = PlainPair(one, other)
            for _ in range(6):
                self.assertFalse(pair.is_parted(by))
                if pair.is_over():
                    break
                self.assertIn(joint(one, other, pair.state()), table)
                event = event_by(draw, one, pair.waiting())
                if event is None:
                    break
                pair.do(event[:-1] + ((),))

    def no_shorter(self, one, other, by, many):
        """No row with fewer events than this parts the books; all of them are tried."""
        rows = [(START,)]
        for _ in range(min(many, 4) - 1):
            longer = []
            for row in rows:
                pair = played(one, other, row)
                self.assertFalse(pair.is_parted(by))
                if not pair.is_over():
                    longer += [row + (event,) for event in self.events(one, other, pair)]
            rows = longer[:1500]

    def events(self, one, other, pair):
        known = sorted(set(one.numbers) | set(other.numbers)
                       | {value for play in pair.plays for value in play.cells.values()})
        fresh = max(known) + 1
        found = [("resume", name, ()) for name in pair.waiting()]
        for name, parameters in one.handlers:
            worths = [()]
            for at in range(len(parameters)):
                worths = [row + (value,) for row in worths for value in [*known, fresh + at]]
            found += [("call", name, row, ()) for row in worths]
        return found


class WhatStays(unittest.TestCase):
    def test_the_books(self):
        one, other = Book.read(FULL), Book.read(FULL.replace("tell peek sum", "tell 0"))
        alike(one, other)
        self.assertEqual((str(one), str(other)), (FULL, FULL.replace("tell peek sum", "tell 0")))


if __name__ == "__main__":
    unittest.main()
