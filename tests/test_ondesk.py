"""Point 43 and the interface of ondesk.py: books on desks."""

import random
import unittest
from unittest import mock

from tests.chance import Chance, event_by
from tests.samples import EXAMPLE, FULL, book_of
from trackedreads import ondesk
from trackedreads.books import Book
from trackedreads.desk import Desk
from trackedreads.errors import BadArguments, HasWait, NoName, Ring, TooLong
from trackedreads.ondesk import OnDesk
from trackedreads.play import Play


def without_waits(draw):
    while True:
        book = Chance(draw).book()
        if "wait" not in book.lines:
            return book


class Case(unittest.TestCase):
    def agree(self, text, *calls):
        """The book on a desk does what its play does; the desk's log is returned."""
        book = book_of(text)
        play, there = Play(book), OnDesk(book)
        self.same(play, there)
        for name, *values in calls:
            play.call(name, *values)
            self.assertIsNone(there.call(name, *values))
            self.same(play, there)
        return list(there.desk)

    def same(self, play, there):
        self.assertEqual(list(there.desk), list(play.reports()))
        self.assertEqual(tuple(there.desk[name] for name, _ in play._book.cells), play.present)


class BesideThePlay(Case):
    def test_the_example(self):
        log = self.agree(EXAMPLE.replace("\n", "/"), ("h", 1), ("k", 1))
        self.assertEqual(log, [("e", (0,)), ("e", (0,))])

    def test_many_books(self):
        rings = 0
        for seed in range(500):
            draw = random.Random(seed)
            book = without_waits(draw)
            with self.subTest(seed=seed):
                try:
                    play = Play(book)
                except Ring as why:
                    rings += 1
                    with self.assertRaises(TooLong) as caught:
                        OnDesk(book)
                    self.assertEqual(caught.exception.cells, self.turned(book, why))
                    continue
                there = OnDesk(book)
                self.same(play, there)
                rings += self.some_calls(draw, book, play, there)
        self.assertGreater(rings, 2)

    def turned(self, book, why):
        """The cells that TooLong names are at least those of the ring."""
        names = [name for name, _ in book.cells]
        try:
            OnDesk(book)
        except TooLong as told:
            self.assertEqual([name for name in names if name in why.cells and name not in told.cells], [])
            self.assertEqual(sorted(told.cells, key=names.index), list(told.cells))
            return told.cells
        return None

    def some_calls(self, draw, book, play, there):
        for _ in range(8):
            event = event_by(draw, book, ())
            if event is None:
                return 0
            _, name, values, _ = event
            try:
                told = play.call(name, *values)
            except Ring:
                with self.assertRaises(TooLong):
                    there.call(name, *values)
                return 1
            before = len(there.desk)
            self.assertIsNone(there.call(name, *values))
            self.assertEqual(list(there.desk)[before:], told)
            self.same(play, there)
        return 0

    def test_sets_outside_and_inside_of_batches(self):
        text = ("cell a = 0/cell b = 0/effect e/tell a/tell b/end/handler h x/set a = x/set b = x/end/"
                "handler k x/batch/set a = x/batch/set b = x/end/set a = b/end/set b = 9/end")
        log = self.agree(text, ("h", 5), ("k", 7), ("k", 7))
        self.assertEqual([report for _, report in log],
                         [(0, 0), (5, 0), (5, 5), (7, 7), (7, 9), (7, 7), (7, 9)])

    def test_a_batch_with_nothing_in_it_and_sets_of_the_same_value(self):
        text = "cell a = 0/effect e/tell a/end/handler h/batch/end/set a = 0/set a = a/end"
        self.assertEqual(self.agree(text, ("h",)), [("e", (0,))])

    def test_all_are_made_in_one_batch(self):
        # The second effect sets what the first has read; the first is run again behind all.
        text = "cell a = 0/effect e/tell a/end/effect f/set a = 1/end/effect g/tell a/end"
        self.assertEqual(self.agree(text), [("e", (0,)), ("f", ()), ("g", (1,)), ("e", (1,))])

    def test_each_answers(self):
        text = ("cell a = 0/cell b = 0/each p/note a/give peek b/end/each q/quiet/note a/end/give p/end/"
                "effect e/tell p/end/effect f/tell peek p/end/effect g/quiet/note b/end/tell q/end/"
                "handler h x/set a = x/end/handler k x/set b = x/end")
        log = self.agree(text, ("k", 5), ("h", 1), ("h", 2))
        self.assertEqual(log[3:], [("e", (5,)), ("g", (5,)), ("e", (5,)), ("g", (5,))])
        there = OnDesk(book_of(text))
        self.assertEqual([name in there.desk for name in "pqabe"], [False, False, True, True, True])

    def test_each_answers_in_kept_ones(self):
        text = ("cell a = 0/cell b = 0/each p/if a == 0/give 0/end/give b/end/kept q/give p/end/"
                "each r/give q/end/effect e/tell r/end/handler h x/set a = x/end/handler k x/set b = x/end")
        log = self.agree(text, ("k", 5), ("h", 1), ("k", 6), ("h", 2))
        self.assertEqual([report for _, report in log], [(0,), (5,), (6,)])

    def test_quiet_with_gives_inside(self):
        text = ("cell a = 0/cell b = 0/kept p/quiet/if a == 0/give b/end/end/give a/end/"
                "kept q/note b/quiet/let x = a/quiet/if x == 1/give 7/end/end/end/give b/end/"
                "effect e/tell p/tell q/end/handler h x/set a = x/end/handler k x/set b = x/end")
        log = self.agree(text, ("h", 1), ("k", 2), ("h", 0), ("k", 3), ("h", 1), ("k", 4))
        self.assertEqual(log[0], ("e", (0, 0)))

    def test_a_give_that_ends_the_body_out_of_nested_blocks(self):
        text = ("cell a = 0/each p/quiet/if a == 0/quiet/if a != 1/give 5/give 1/end/end/give 1/end/"
                "give 8/end/give 1/end/effect e/tell p/tell a/end/handler h x/set a = x/end")
        log = self.agree(text, ("h", 1), ("h", 0))
        self.assertEqual([report for _, report in log], [(5, 0), (8, 1), (5, 0)])

    def test_quiet_with_sets_and_tells_inside(self):
        text = ("cell a = 0/cell b = 0/effect e/quiet/tell a/set b = a/tell b/end/note b/end/"
                "effect f/tell b/end/handler h x/set a = x/end/handler k x/set b = x/end")
        self.agree(text, ("h", 3), ("k", 4), ("k", 3))

    def test_locals_and_parameters_named_like_other_things(self):
        text = ("cell a = 0/kept p/let q = a/let p = q/let e = p/give e/end/each q/let e = p/let h = e/"
                "give h/end/effect e/let e = p/let h = q/let f = e/tell f/tell h/end/"
                "effect f/let e = 1/tell e/end/handler h h e/let f = h/set a = f/if e == h/let k = a/"
                "set a = k/end/end/handler k f/batch/set a = f/let f = 4/set a = f/end/end")
        log = self.agree(text, ("h", 3, 3), ("h", 5, 6), ("k", 1))
        self.assertEqual(log[-1], ("e", (4, 4)))

    def test_locals_of_blocks(self):
        text = ("cell a = 0/effect e/let x = 1/if a == 0/let x = 2/let y = 0/end/if a != 0/let y = 4/"
                "tell y/else/let y = x/tell y/end/tell x/end/handler h z/batch/let z = 1/end/set a = z/end")
        self.assertEqual(self.agree(text, ("h", 1)), [("e", (2, 2)), ("e", (4, 1))])

    def test_a_handler_keeps_its_locals_whatever_a_settling_sets(self):
        text = ("cell a = 0/cell b = 0/effect e/set b = a/end/handler h x/let y = b/set a = x/"
                "set b = y/set a = b/end")
        self.agree(text, ("h", 3), ("h", 4))

    def test_peeks_of_all_sources(self):
        text = ("cell a = 0/kept p/give a/end/each q/give p/end/effect e/tell peek a/tell peek p/tell peek q/"
                "end/effect f/note q/tell peek p/end/handler h x/set a = x/if peek q == peek p/set a = q/end/end")
        log = self.agree(text, ("h", 3))
        self.assertEqual(log[2:], [("f", (3,))])


class CallsOfTheDesk(Case):
    def calls(self, text, word, *event):
        """How often the method of the desk is called, by an event or when the book is put there."""
        there = OnDesk(book_of(text)) if event else None
        with mock.patch.object(Desk, word, autospec=True, side_effect=getattr(Desk, word)) as called:
            if event:
                there.call(*event)
            else:
                OnDesk(book_of(text))
        return called.call_count

    def test_quiet_blocks_are_quiet_calls(self):
        text = "cell a = 0/kept p/{}give 0/end/effect e/{}end/handler h/end"
        for answer, effect, many in (
                ("", "", 0), ("", "quiet/end/", 1), ("", "quiet/tell 1/quiet/end/end/", 2),
                ("", "if a == 0/else/quiet/end/end/", 0), ("quiet/end/", "", 0),
                ("quiet/give 1/end/", "note p/", 1), ("quiet/give 1/end/quiet/end/", "note p/", 1),
                ("quiet/quiet/give 1/end/give 0/end/", "note p/quiet/end/", 3)):
            self.assertEqual(self.calls(text.format(answer, effect), "quietly"), many)

    def test_batches_are_calls_of_together(self):
        text = "cell a = 0/effect e/end/handler h/batch/batch/set a = 1/end/batch/end/end/end/handler k/end"
        self.assertEqual(self.calls(text, "together"), 1)
        self.assertEqual(self.calls(text, "together", "h"), 3)
        self.assertEqual(self.calls(text, "together", "k"), 0)


class Names(Case):
    def test_in_use(self):
        book = Book.read(FULL.replace("wait\n", ""))
        there = OnDesk(book)
        for name in ("a", "b", "sum", "e", "f"):
            self.assertIs(name in there.desk, True)
        for name in ("twin", "h", "move", "x", "from", "to", "one"):
            self.assertIs(name in there.desk, False)
        self.assertIsInstance(there.desk, Desk)

    def test_the_desk_goes_on(self):
        there = OnDesk(Book.read(EXAMPLE))
        seen = []
        there.desk.effect("z", lambda: seen.append(there.desk["b"]) or 0)
        cell = there.desk.cell("c", 5)
        follower = there.desk.effect("y", cell)
        there.desk["b"] = 4
        cell += 1
        self.assertEqual(list(there.desk), [("e", (0,)), ("z", 0), ("y", 5), ("e", (4,)), ("y", 6)])
        self.assertEqual(follower.runs, 2)

    def test_no_handlers(self):
        there = OnDesk(Book.read(EXAMPLE))
        for name in ("a", "e", "zz", "", None, True, 0, ["h"], ("h",), []):
            for values in ((), (1,), (1, 2)):
                with self.assertRaises(NoName) as caught:
                    there.call(name, *values)
                self.assertEqual(caught.exception.name, name)
                self.assertIs(caught.exception.name.__class__, name.__class__)

    def test_other_numbers_of_values(self):
        there = OnDesk(book_of("cell a = 0/effect e/tell a/end/handler h/set a = 1/end/handler k x y/set a = x/end"))
        for name, values in (("h", (1,)), ("h", (1, 2)), ("k", ()), ("k", (1,)), ("k", (1, 2, 3))):
            with self.assertRaises(BadArguments) as caught:
                there.call(name, *values)
            self.assertEqual(caught.exception.count, len(values))
        self.assertEqual((there.desk["a"], len(there.desk)), (0, 1))
        there.call("k", 3, 4)
        there.call(name="h")
        self.assertEqual(list(there.desk.told("e")), [(0,), (3,), (1,)])

    def test_two_of_one_book(self):
        book = Book.read(EXAMPLE)
        one, other = OnDesk(book), OnDesk(book=book)
        one.call("k", 5)
        self.assertEqual((one.desk["b"], other.desk["b"]), (5, 0))
        self.assertFalse(one == other)
        self.assertFalse(one == one.desk)
        self.assertEqual(OnDesk.__module__, ondesk.__name__)
        self.assertIn("call", vars(OnDesk))


class Waits(Case):
    def test_the_first_effect_that_has_one(self):
        effects = {"e": "effect e/{}end", "f": "effect f/{}end", "g": "effect g/{}end"}
        wait = "if a == 1/wait/end/"
        for having in ("e", "f", "g", "ef", "fg", "eg", "efg"):
            text = "cell a = 0/" + "/".join(effects[name].format(wait if name in having else "")
                                            for name in effects)
            with self.assertRaises(HasWait) as caught:
                OnDesk(book_of(text))
            self.assertEqual(caught.exception.name, having[0])

    def test_ahead_of_too_long(self):
        text = "cell a = 0/effect e/if a == 0/set a = 1/else/set a = 0/end/end/effect f/wait/end"
        with self.assertRaises(HasWait) as caught:
            OnDesk(book_of(text))
        self.assertEqual(caught.exception.name, "f")

    def test_in_every_block(self):
        for block in ("quiet/wait/end", "if a == 0/else/quiet/wait/end/end", "wait"):
            with self.assertRaises(HasWait):
                OnDesk(book_of(f"cell a = 0/effect e/{block}/end"))


class Endless(Case):
    ring = "cell a = 2/effect e/if a == 1/set a = 0/else/if a == 0/set a = 1/end/end/end/handler h x/set a = x/end"

    def test_when_it_is_made(self):
        with self.assertRaises(TooLong) as caught:
            OnDesk(book_of("cell b = 0/cell a = 0/effect e/if a == 0/set a = 1/else/set a = 0/end/end"))
        self.assertEqual(caught.exception.cells, ("a",))

    def test_in_a_call(self):
        there = OnDesk(book_of(self.ring + "/handler k/set a = 1/set a = 7/end"))
        for name, values in (("h", (1,)), ("k", ())):
            with self.assertRaises(TooLong) as caught:
                there.call(name, *values)
            self.assertEqual(caught.exception.cells, ("a",))
            # The call ended with the settling that was too long.
            self.assertIn(there.desk["a"], (0, 1))
        there.call("h", 5)
        self.assertEqual(there.desk["a"], 5)


def counter(names):
    """A book that counts up in the digits 0 to 3 until the last cell is 3."""
    lines = []
    for name in reversed(names):
        steps = [f"let {name * 2} = {name}"]
        for worth in range(3):
            steps += [f"if {name * 2} == {worth}", f"set {name} = {worth + 1}", "end"]
        lines = steps + [f"if {name * 2} == 3", f"set {name} = 0", *lines, "end"]
    head = [f"cell {name} = 0" for name in names] + ["effect e", f"if {names[-1]} != 3"]
    return "/".join(head + lines + ["end", "end"])


class ManyRuns(Case):
    def test_fewer_than_a_hundred(self):
        self.assertEqual(len(self.agree(counter("abc"))), 49)

    def test_more_though_they_end(self):
        book = book_of(counter("abcd"))
        self.assertEqual(len(list(Play(book).reports())), 193)
        with self.assertRaises(TooLong) as caught:
            OnDesk(book)
        self.assertEqual(caught.exception.cells, ("a", "b", "c", "d"))


if __name__ == "__main__":
    unittest.main()
