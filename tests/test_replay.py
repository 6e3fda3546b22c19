"""Rows (19), and replay and replay_faults of play.py."""

import unittest

from tests.samples import EXAMPLE, book_of
from trackedreads.books import Book
from trackedreads.errors import BadRow, Ring
from trackedreads.play import Play, replay, replay_faults

START = ("start", ())
BOOK = book_of("cell a = 0/effect e/if a == 1/set a = 2/else/if a == 2/set a = 1/end/end/tell a/end/"
               "effect w/note a/wait/end/handler h x/set a = x/end/handler k/end/handler m x y/end")
CALL = ("call", "k", (), ())
ENDLESS = ("call", "h", (1,), ())
ENDLESS_BOOK = book_of("cell a = 0/effect e/if a == 0/set a = 1/else/set a = 0/end/end/handler k/end")
OTHERS = (None, True, 0, 7, "", "start", "call", [], (), ("start",), ((),), (None,), [START], [[]])


class Rows(unittest.TestCase):
    def test_the_play_behind_a_row(self):
        row = (START, ("call", "h", (3,), ()), ("resume", "w", ()), CALL)
        play = replay(BOOK, row)
        self.assertIsInstance(play, Play)
        self.assertEqual(len(play), 4)
        self.assertEqual(list(play.reports()), [("e", (0,)), ("e", (3,)), ("w", ())])
        self.assertEqual(play.present, (3,))
        self.assertEqual(play.call("h", 4), [("e", (4,))])

    def test_the_row_of_the_example(self):
        row = (START, ("call", "h", (1,), ()), ("call", "k", (1,), ()))
        book = Book.read(EXAMPLE)
        self.assertEqual(replay(book, row).faults, [("fresh", "e")])
        self.assertEqual(replay_faults(book, row), [("fresh", "e")])
        self.assertEqual(replay_faults(book, row[:2]), [("lean", "e")])
        self.assertEqual(replay_faults(book, row[:1]), [])

    def test_picks_of_each_event(self):
        book = book_of("cell a = 0/cell b = 1/effect e/tell a/end/effect f/tell a/end/effect g/"
                       "set a = b/end/handler h x/set a = x/end")
        play = replay(book, (("start", (1,)), ("call", "h", (5,), (-1, 10 ** 59))))
        self.assertEqual("".join(name for name, _ in play.reports()), "efgfefe")
        self.assertEqual(play.choices, ((1, 2), (0, 1)))

    def test_an_endless_last_event(self):
        for book, row in ((BOOK, (START, CALL, ENDLESS)), (ENDLESS_BOOK, (START,)),
                          (ENDLESS_BOOK, (("start", (4,)),))):
            with self.assertRaises(Ring) as caught:
                replay(book, row)
            self.assertEqual(caught.exception.effects[0], "e")
            self.assertEqual(caught.exception.cells, ("a",))
            self.assertEqual(replay_faults(book, row), [("ends", None)])

    def test_values_of_sixty_digits(self):
        big = 10 ** 60 - 1
        self.assertEqual(replay(BOOK, (START, ("call", "h", (-big,), (big,)))).present, (-big,))


class WrongRows(unittest.TestCase):
    def check(self, at, row, book=BOOK):
        with self.subTest(row=row):
            for asked in (replay, replay_faults):
                with self.assertRaises(BadRow) as caught:
                    asked(book, row)
                self.assertEqual(caught.exception.at, at)

    def test_no_tuple_or_an_empty_one(self):
        for row in (None, True, 0, "", "start", [], [START], [START, CALL], (), 10 ** 60):
            self.check(-1, row)

    def test_the_first_is_a_start(self):
        for first in (*OTHERS, CALL, ["start", ()], ("start", []), ("start", None), ("start", 0),
                      ("start", (None,)), ("start", (True,)), ("start", (0, False)),
                      ("start", ("0",)), ("start", ((),)), ("start", (), ()), ("Start", ()),
                      ("resume", ()), ("begin", ()), (True, ()), ENDLESS, ("resume", "w", ())):
            self.check(0, (first,))
            self.check(0, (first, START))
            self.check(0, (first, None))

    def test_no_later_one_is(self):
        self.check(1, (START, START))
        self.check(2, (START, CALL, START, CALL))

    def test_what_is_no_event(self):
        wrong = [*OTHERS, "k", list(CALL), ("call", "k", ()), ("call", "k", (), (), ()),
                 ("call", "k"), ("Call", "k", (), ()), ("call", "k", [], ()), ("call", "k", (), []),
                 ("call", "k", None, ()), ("call", "k", (), None), ("call", "k", (), (True,)),
                 ("call", "k", (), ("0",)), ("call", ("k",), (), ()), ("call", None, (), ()),
                 ("call", ["k"], (), ()), ("call", 0, (), ()), ("call", "h", 1, ()),
                 ("call", "h", (True,), ()), ("call", "h", (None,), ()), ("call", "h", ("1",), ()),
                 ("call", "h", ((1,),), ()), ("call", "h", [1], ()), ("resume", "w"),
                 ("resume", "w", [], ()), ("resume", "w", []), ("resume", "w", None),
                 ("resume", "w", (False,)), ("resume", "w", (), ()), ("resume", None, ()),
                 ("resume", ("w",), ()), ("resume", ["w"], ()), ["resume", "w", ()],
                 ("start", ()), ("go", "k", (), ()), (("call",), "k", (), ())]
        for event in wrong:
            self.check(1, (START, event))
            self.check(2, (START, CALL, event, CALL))

    def test_what_cannot_happen_there(self):
        for event in (("call", "z", (), ()), ("call", "e", (), ()), ("call", "", (), ()),
                      ("call", "k", (1,), ()), ("call", "h", (), ()), ("call", "h", (1, 2), ()),
                      ("call", "m", (1,), ()), ("resume", "e", ()), ("resume", "z", ()),
                      ("resume", "k", ()), ("resume", "a", ())):
            self.check(1, (START, event))
            self.check(3, (START, CALL, CALL, event, None))

    def test_a_resume_that_came_before(self):
        resume = ("resume", "w", ())
        self.assertEqual(len(replay(BOOK, (START, resume))), 2)
        self.check(2, (START, resume, resume))
        # A call lets it wait again.
        self.assertEqual(len(replay(BOOK, (START, resume, ("call", "h", (5,), ()), resume))), 4)

    def test_an_entry_behind_an_endless_event(self):
        for behind in (CALL, START, None, ENDLESS):
            self.check(2, (START, ENDLESS, behind))
            self.check(1, (START, behind), ENDLESS_BOOK)
            self.check(1, (START, behind, None), ENDLESS_BOOK)
        self.check(3, (START, CALL, ENDLESS, CALL, None))

    def test_the_first_wrong_one_is_told(self):
        self.check(1, (START, None, ENDLESS, CALL))
        self.check(2, (START, ENDLESS, ("call", "z", (), ())))


if __name__ == "__main__":
    unittest.main()
