"""Points 3, 24, 28 and 30 and the interface of judging.py."""

import unittest

from tests.samples import EXAMPLE, FULL, book_of
from trackedreads import judging
from trackedreads.books import Book
from trackedreads.errors import BadAsk
from trackedreads.judging import Verdict, judge
from trackedreads.play import Play, replay_faults
from trackedreads.states import canonical

ASKS = ("ends", "whole", "lean", "fresh")
START = ("start", ())
ENDLESS = "cell a = 0/effect e/if a == 0/set a = 1/else/set a = 0/end/end"
HALF = ("cell a = 0/cell b = 0/effect d/set b = a/end/effect e/tell a/tell b/end/"
        "handler h x/set a = x/end")
GOOD = "cell a = 0/effect e/tell a/end/handler h x/set a = x/end"
# Endless as long as the second effect does not come first.
RACE = ("cell a = 0/effect e/if a == 1/set a = 2/else/if a == 2/set a = 1/end/end/end/"
        "effect f/if a == 1/set a = 0/end/end/effect g/{}/end/handler k/end")


class Examples(unittest.TestCase):
    def test_the_book_of_22_does_not_keep_fresh(self):
        verdict = judge(Book.read(EXAMPLE))
        self.assertIs(bool(verdict), False)
        kind, row, ask, effect = verdict.certificate
        self.assertEqual((kind, len(row), ask, effect), ("broken", 3, "fresh", "e"))
        self.assertEqual(replay_faults(Book.read(EXAMPLE), row), [("fresh", "e")])
        for asks in (("ends",), ("whole",), ("ends", "whole")):
            self.assertIs(bool(judge(Book.read(EXAMPLE), asks=asks)), True)

    def test_the_endless_book(self):
        for order in ("book", "any"):
            verdict = judge(book_of(ENDLESS), order=order)
            self.assertEqual(verdict.certificate[2:], ("ends", None))
            self.assertEqual(len(verdict), 1)

    def test_whole_in_the_order_of_the_book_but_not_in_any(self):
        book = book_of(HALF)
        self.assertIs(bool(judge(book, asks=("whole",), order="book")), True)
        verdict = judge(book, asks=("whole",), order="any")
        self.assertIs(bool(verdict), False)
        self.assertEqual(len(verdict), 2)
        self.assertEqual(verdict.certificate[2:], ("whole", "e"))
        self.assertIn(("whole", "e"), replay_faults(book, verdict.certificate[1]))


class Kept(unittest.TestCase):
    def test_the_table(self):
        verdict = judge(book_of(GOOD), asks=ASKS)
        self.assertEqual(verdict.certificate[0], "kept")
        self.assertEqual(sorted(verdict.certificate[1]), [
            ((0,), (), (((0,), (("a", 0),), None),)), ((1,), (), (((1,), (("a", 1),), None),))])

    def test_a_book_without_handlers_and_waits(self):
        verdict = judge(book_of("cell a = 0/effect e/tell a/end"))
        self.assertEqual(verdict.certificate, ("kept", (((0,), (), (((0,), (("a", 0),), None),)),)))

    def test_canonical_states_of_all_events_of_rows(self):
        book = Book.read(FULL)
        verdict = judge(book, asks=("ends", "whole", "fresh"))
        table = verdict.certificate[1]
        self.assertEqual(len(set(table)), len(table))
        for state in table:
            self.assertEqual(canonical(book, state), state)
        play = Play(book)
        for event in (("call", "move", (5, -9), ()), ("resume", "e", ()), ("call", "h", (), ()),
                      ("call", "move", (4, 10 ** 29), ()), ("call", "move", (0, 3), ())):
            play.do(event)
            self.assertIn(canonical(book, play.state()), table)

    def test_without_asks_every_book_is_kept(self):
        for text in (EXAMPLE.replace("\n", "/"), ENDLESS, HALF, GOOD):
            for order in ("book", "any"):
                for asks in ((), []):
                    self.assertIs(bool(judge(book_of(text), asks=asks, order=order)), True)

    def test_an_endless_event_leads_to_no_state(self):
        text = "cell a = 0/effect e/if a != 0/if a == 1/set a = 2/else/set a = 1/end/end/end/"
        verdict = judge(book_of(text + "handler h x/set a = x/end"), asks=("fresh",))
        self.assertEqual(verdict.certificate, ("kept", (((0,), (), (((), (("a", 0),), None),)),)))

    def test_a_start_that_is_endless_in_every_way(self):
        for order in ("book", "any"):
            verdict = judge(book_of(ENDLESS + "/handler h x/set a = x/end"),
                            asks=("whole", "lean", "fresh"), order=order)
            self.assertEqual(verdict.certificate, ("kept", ()))

    def test_a_start_that_is_endless_in_some_ways(self):
        book = book_of(RACE.format("set a = 1"))
        self.assertIs(bool(judge(book, asks=("ends",))), False)
        self.assertEqual(judge(book, asks=()).certificate, ("kept", ()))
        verdict = judge(book, asks=(), order="any")
        self.assertEqual(verdict.certificate, ("kept", (
            ((0,), (), (((), (("a", 0),), None), ((), (("a", 0),), None), ((), (), None))),)))


class Broken(unittest.TestCase):
    def check(self, text, asks, many, fault, order="book"):
        book = book_of(text)
        verdict = judge(book, asks=asks, order=order)
        kind, row, ask, effect = verdict.certificate
        self.assertEqual((kind, len(row), (ask, effect)), ("broken", many, fault))
        self.assertEqual((bool(verdict), len(verdict), list(verdict)), (False, many, []))
        self.assertIn(fault, replay_faults(book, row))
        self.assertEqual(row[0][0], "start")
        if order == "book":
            self.assertEqual({event[-1] for event in row}, {()})
        return row

    def test_a_row_of_one_event(self):
        self.check(ENDLESS, ("fresh", "ends"), 1, ("ends", None))
        self.check("cell a = 0/effect e/tell peek a/end/effect f/set a = 1/end", ASKS, 1,
                   ("whole", "e"))
        self.check("cell a = 0/effect e/tell peek a/end/effect f/set a = 1/end", ("fresh",), 1,
                   ("fresh", "e"))
        self.check(ENDLESS, ASKS, 1, ("ends", None), "any")

    def test_a_row_of_two_events(self):
        self.check("cell a = 0/effect e/tell peek a/end/handler h x/set a = x/end", ASKS, 2,
                   ("fresh", "e"))
        self.check("cell a = 0/effect e/note a/end/handler h/set a = 1/end", ASKS, 2, ("lean", "e"))
        self.check("cell a = 0/effect e/wait/tell a/end/handler h x/set a = x/end", ASKS, 3,
                   ("fresh", "e"))

    def test_longer_rows(self):
        text = ("cell a = 0/cell b = 0/cell c = 0/effect e/if a == 0/note c/else/if b == 0/note c/"
                "end/end/tell peek c/end/handler h/set a = 1/end/handler k/if a == 1/set b = 1/end/"
                "end/handler m x/set c = x/end")
        row = self.check(text, ("fresh",), 4, ("fresh", "e"))
        self.assertEqual([event[1] for event in row[1:]], ["h", "k", "m"])

    def test_values_that_are_no_numbers_of_the_book(self):
        # Only where a and b differ, and neither is 0, is a change of a missed.
        text = ("cell a = 0/cell b = 0/effect e/note b/if peek a == 0/note a/else/if b == 0/note a/"
                "else/if peek a == b/note a/end/end/end/tell peek a/end/handler h x/set a = x/end/"
                "handler k x/set b = x/end")
        row = self.check(text, ("fresh",), 4, ("fresh", "e"))
        self.assertEqual(len({0, *[event[2] for event in row[1:]]}), 4)

    def test_two_new_values_at_once(self):
        text = ("cell a = 0/effect e/tell peek a/end/handler h x y/if x != 0/if y != 0/if x != y/"
                "set a = x/end/end/end/end")
        row = self.check(text, ("fresh",), 2, ("fresh", "e"))
        x, y = row[1][2]
        self.assertEqual(len({0, x, y}), 3)

    def test_picks_in_any_order(self):
        row = self.check(HALF, ("whole",), 2, ("whole", "e"), "any")
        self.assertNotEqual(row[1][-1], ())
        self.check(RACE.format("set a = 1"), ("ends",), 1, ("ends", None), "any")
        self.check(RACE.format("let u = 0") + "/handler h/set a = 1/end", ("ends",), 2,
                   ("ends", None), "any")

    def test_the_ask_is_one_of_those_passed(self):
        text = "cell a = 0/cell b = 0/effect e/tell peek b/note a/end/handler h x y/set a = x/set b = y/end"
        for ask in ("whole", "lean", "fresh"):
            verdict = judge(book_of(text), asks=(ask,))
            self.assertEqual(verdict.certificate[2:], (ask, "e"))
        verdict = judge(book_of(text), asks=("ends",))
        self.assertIs(bool(verdict), True)


class Asks(unittest.TestCase):
    def test_order_and_repeats_mean_nothing(self):
        for text in (EXAMPLE.replace("\n", "/"), HALF, GOOD, ENDLESS):
            book = book_of(text)
            for one, other in ((("ends", "fresh"), ["fresh", "ends", "fresh"]),
                               (ASKS, ASKS[::-1] + ASKS), (("whole", "lean"), ["lean", "whole"])):
                first = judge(book, asks=one)
                second = judge(book, asks=other)
                self.assertEqual(len(first), len(second))
                self.assertEqual(bool(first), bool(second))
                self.assertEqual(set(first), set(second))

    def test_by_default_ends_and_fresh_in_the_order_of_the_book(self):
        self.assertEqual(judge(book_of(HALF)).certificate,
                         judge(book_of(HALF), asks=("ends", "fresh"), order="book").certificate)
        self.assertIs(bool(judge(book_of(ENDLESS))), False)
        self.assertIs(bool(judge(book_of("cell a = 0/effect e/note a/end/handler h x/set a = x/end"))),
                      True)

    def test_what_is_no_ask(self):
        for ask in (None, True, 0, "", "end", "Ends", "ends ", "any", [], ["ends"], ("ends",), (),
                    ("ends", None), 10 ** 60):
            for asks in ((ask,), [ask], ("ends", ask, "zz"), ["fresh", "fresh", ask, None]):
                with self.assertRaises(BadAsk) as caught:
                    judge(Book.read(EXAMPLE), asks=asks)
                self.assertEqual(caught.exception.ask, ask)
                self.assertIs(caught.exception.ask.__class__, ask.__class__)

    def test_parameters(self):
        self.assertEqual(judge(book=book_of(GOOD), order="any", asks=["ends"]).certificate[0], "kept")
        with self.assertRaises(TypeError):
            judge(book_of(GOOD), ("ends",))

    def test_the_list_is_not_changed(self):
        asks = ["fresh", "ends"]
        judge(Book.read(EXAMPLE), asks=asks)
        self.assertEqual(asks, ["fresh", "ends"])


class Verdicts(unittest.TestCase):
    def test_methods_are_defined_in_the_class_and_the_class_in_the_file(self):
        for name in ("covers", "__bool__", "__len__", "__iter__"):
            self.assertIn(name, Verdict.__dict__)
        self.assertEqual((Verdict.__module__, judge.__module__), (judging.__name__,) * 2)
        self.assertIsInstance(judge(book_of(GOOD)), Verdict)
        self.assertIn("certificate", vars(judge(book_of(GOOD))))

    def test_kept(self):
        verdict = judge(Book.read(FULL))
        self.assertIs(bool(verdict), True)
        self.assertEqual(len(verdict), 0)
        self.assertEqual(tuple(verdict), verdict.certificate[1])
        self.assertEqual(tuple(verdict), tuple(verdict))
        self.assertIs(verdict.certificate.__class__, tuple)

    def test_broken(self):
        verdict = judge(Book.read(EXAMPLE))
        self.assertIs(bool(verdict), False)
        self.assertEqual(len(verdict), 3)
        self.assertEqual(list(verdict), [])

    def test_covers_states_that_stand_for_those_of_the_table(self):
        book = book_of(GOOD)
        verdict = judge(book)
        self.assertIs(verdict.covers(state=Play(book).state()), True)
        for worth in (0, 1, 2, -5, 10 ** 59):
            self.assertIs(verdict.covers(((worth,), (), (((worth,), (("a", worth),), None),))), True)
        for a, told, noted in ((0, 0, 1), (1, 1, 2), (1, 2, 1), (0, 1, 0), (5, 0, 5)):
            self.assertIs(verdict.covers(((a,), (), (((told,), (("a", noted),), None),))), False)
        self.assertIs(verdict.covers(((1,), (), (((1,), (("a", 1),), None),))), True)
        self.assertIs(verdict.covers(((True,), (), (((1,), (("a", 1),), None),))), False)

    def test_covers_no_other_value(self):
        verdict = judge(book_of(GOOD))
        for thing in (None, True, 0, "", "kept", [], (), ((0,), (), ()), verdict.certificate,
                      [[0], [], []], [((0,), (), (((0,), (("a", 0),), None),))]):
            self.assertIs(verdict.covers(thing), False)

    def test_a_broken_verdict_covers_nothing(self):
        book = Book.read(EXAMPLE)
        verdict = judge(book)
        self.assertIs(verdict.covers(Play(book).state()), False)
        self.assertIs(verdict.covers(None), False)

    def test_equal_to_nothing_of_another_class(self):
        verdict = judge(book_of(GOOD))
        for other in (verdict.certificate, True, 0, None, book_of(GOOD)):
            self.assertFalse(verdict == other)

    def test_the_same_each_time(self):
        for text in (GOOD, HALF, EXAMPLE.replace("\n", "/")):
            self.assertEqual(judge(book_of(text)).certificate, judge(book_of(text)).certificate)


if __name__ == "__main__":
    unittest.main()
