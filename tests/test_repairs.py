"""Point 32 and least_repairs in the interface of repairs.py."""

import itertools
import random
import unittest

from tests.chance import Chance
from tests.samples import EXAMPLE, book_of
from tests.test_steps import offered_by
from trackedreads import repairs
from trackedreads.books import Book
from trackedreads.errors import BadAsk, BadStep, TooMany
from trackedreads.judging import judge
from trackedreads.repairs import changed, least_repairs

BOOK = Book.read(EXAMPLE)
NOTE_A, NOTE_B = ("note", "e", "a"), ("note", "e", "b")
BATCH = ("batch", "h")
# Two effects that miss the cell b, each in its way.
TWO = book_of("cell a = 0/cell b = 0/effect e/tell peek b/end/effect f/quiet/tell b/end/end/"
              "handler h x/set b = x/end")
NOTES = (("note", "e", "b"), ("note", "f", "b"))


def repaired(book, steps, **more):
    """What least_repairs returns, or what TooMany tells."""
    try:
        return least_repairs(book, steps, **more)
    except TooMany as why:
        return why.what


class Choices(unittest.TestCase):
    def test_none_is_needed(self):
        book = book_of("cell a = 0/effect e/tell a/end/handler h x/set a = x/end")
        for steps in ((), [], [NOTE_A], (("peek", "e", "a"), BATCH), [NOTE_A, BATCH, ("peek", "e", "a")]):
            self.assertEqual(least_repairs(book, steps), [()])

    def test_one(self):
        self.assertEqual(least_repairs(BOOK, [NOTE_B]), [(NOTE_B,)])
        self.assertEqual(least_repairs(BOOK, [BATCH, NOTE_A, NOTE_B]), [(NOTE_B,)])

    def test_two(self):
        self.assertEqual(least_repairs(TWO, NOTES), [NOTES])
        self.assertEqual(least_repairs(TWO, NOTES[::-1]), [NOTES[::-1]])
        self.assertEqual(least_repairs(TWO, (BATCH, NOTES[1], ("note", "e", "a"), NOTES[0])),
                         [(NOTES[1], NOTES[0])])

    def test_several_in_order(self):
        book = book_of("cell a = 0/each p/give a/end/kept q/give a/end/effect e/tell peek a/end/"
                       "handler h x/set a = x/end")
        steps = [("note", "e", name) for name in "qap"]
        self.assertEqual(least_repairs(book, steps), [(step,) for step in steps])
        self.assertEqual(least_repairs(book, steps[::-1]), [(step,) for step in steps[::-1]])
        self.assertEqual(least_repairs(book, [BATCH, *steps]), [(step,) for step in steps])

    def test_several_of_two_steps_in_order(self):
        book = book_of("cell b = 0/kept p/give b/end/effect e/tell peek b/end/effect f/tell peek b/end/"
                       "handler h x/set b = x/end")
        steps = [("note", "e", "b"), ("note", "f", "p"), ("note", "f", "b"), ("note", "e", "p")]
        for order in itertools.permutations(steps):
            pairs = [pair for pair in itertools.combinations(order, 2) if pair[0][1] != pair[1][1]]
            self.assertEqual(least_repairs(book, order), pairs)

    def test_no_choice_does(self):
        self.assertEqual(least_repairs(BOOK, []), [])
        self.assertEqual(least_repairs(BOOK, ()), [])
        self.assertEqual(least_repairs(BOOK, [NOTE_A, BATCH]), [])
        self.assertEqual(least_repairs(TWO, NOTES[:1]), [])

    def test_steps_that_make_it_worse(self):
        # Who notes a there runs without end.
        book = book_of("cell a = 0/cell b = 0/effect e/tell peek b/end/effect f/note b/"
                       "if peek a == 0/set a = 1/else/set a = 0/end/end/handler h x/set b = x/end")
        steps = [("note", "f", "a"), ("note", "e", "b")]
        self.assertEqual(least_repairs(book, steps), [(("note", "e", "b"),)])
        self.assertEqual(least_repairs(book, steps[:1]), [])
        self.assertEqual(least_repairs(book, steps[:1], asks=("ends",)), [()])
        self.assertFalse(judge(changed(book, steps), asks=("ends",)))

    def test_a_half_done_change_is_told_behind_a_note(self):
        book = book_of("cell a = 0/cell b = 0/effect e/note a/tell peek a/tell peek b/end/"
                       "handler h x/set b = x/set a = x/end")
        self.assertEqual(least_repairs(book, [NOTE_B], asks=("whole",)), [()])
        self.assertEqual(judge(changed(book, [NOTE_B]), asks=("whole",)).certificate[0], "broken")
        book = book_of("cell a = 0/cell b = 0/effect e/note a/tell peek a/tell peek b/end/"
                       "handler h x y/set b = x/set a = y/end")
        self.assertEqual(least_repairs(book, [NOTE_B, BATCH], asks=("fresh",)), [(NOTE_B,)])
        self.assertEqual(least_repairs(book, [NOTE_B, BATCH], asks=("fresh", "whole")),
                         [(NOTE_B, BATCH)])

    def test_the_order_any(self):
        book = book_of("cell a = 0/cell b = 0/effect d/set b = a/end/effect e/tell a/tell b/end/"
                       "handler h x/set a = x/end")
        steps = [("peek", "d", "a"), ("peek", "e", "a"), ("peek", "e", "b")]
        self.assertEqual(least_repairs(book, steps, asks=("whole",)), [()])
        self.assertEqual(least_repairs(book, steps, asks=["whole"], order="any"),
                         least_repairs(book, steps, asks=("whole",), order="any"))
        self.assertNotEqual(least_repairs(book, steps, asks=("whole",), order="any"), [()])

    def test_asks_as_judge_takes_them(self):
        self.assertEqual(least_repairs(BOOK, [NOTE_B], asks=()), [()])
        self.assertEqual(least_repairs(BOOK, [NOTE_B], asks=["ends", "whole"]), [()])
        self.assertEqual(least_repairs(book=BOOK, steps=[NOTE_B]),
                         least_repairs(BOOK, [NOTE_B], asks=("fresh", "ends", "fresh"), order="book"))
        with self.assertRaises(TypeError):
            least_repairs(BOOK, [NOTE_B], ("ends",))


class Lists(unittest.TestCase):
    def test_kinds_of_what_is_returned(self):
        for steps in ([NOTE_B], (NOTE_B,)):
            found = least_repairs(BOOK, steps)
            self.assertIsInstance(found, list)
            self.assertIsInstance(found[0], tuple)
        found.clear()
        self.assertEqual(least_repairs(BOOK, [NOTE_B]), [(NOTE_B,)])
        self.assertEqual(least_repairs.__module__, repairs.__name__)

    def test_arguments_stay(self):
        steps = [BATCH, NOTE_A, NOTE_B]
        asks = ["ends", "fresh"]
        least_repairs(BOOK, steps, asks=asks)
        self.assertEqual((steps, asks, str(BOOK)),
                         ([BATCH, NOTE_A, NOTE_B], ["ends", "fresh"], EXAMPLE))


class Errors(unittest.TestCase):
    five = [NOTE_A, NOTE_B, ("peek", "e", "a"), ("peek", "e", "b"), BATCH]

    def test_four_steps_and_five(self):
        self.assertEqual(least_repairs(BOOK, self.five[:4]), [(NOTE_B,)])
        self.assertEqual(repaired(BOOK, self.five), "steps")
        self.assertEqual(repaired(BOOK, self.five[1:]), [(NOTE_B,)])
        # Also where the book keeps what is asked as it is.
        self.assertEqual(repaired(BOOK, self.five, asks=()), "steps")

    def test_no_ask(self):
        for ask in (None, "end", ["ends"], True, ""):
            for steps in ([], [NOTE_B], [None], self.five, self.five + [None]):
                with self.assertRaises(BadAsk) as caught:
                    least_repairs(BOOK, steps, asks=["ends", ask, "zz"])
                self.assertEqual(caught.exception.ask, ask)

    def test_no_step(self):
        for steps, at in (([None], 0), ([NOTE_B, NOTE_B], 1), (self.five + [NOTE_A], 5),
                          (self.five + [["batch", "h"]], 5), ((NOTE_A, ("each", "e")), 1)):
            with self.assertRaises(BadStep) as caught:
                least_repairs(BOOK, steps)
            self.assertEqual(caught.exception.at, at)
            with self.assertRaises(BadStep):
                least_repairs(BOOK, steps, asks=())

    def filled(self, many, body="tell peek a/"):
        text = f"cell a = 0/effect e/{body}end/handler h x/set a = x/end"
        more = many - len(text.split("/"))
        return book_of(text.replace("effect e/", "effect e/" + "tell 0/" * more))

    def test_too_many_lines_of_a_choice_that_is_tried(self):
        self.assertEqual(repaired(self.filled(79), [NOTE_A]), [(NOTE_A,)])
        self.assertEqual(repaired(self.filled(80), [NOTE_A]), "lines")
        self.assertEqual(repaired(self.filled(79), [NOTE_A, BATCH]), "lines")
        self.assertEqual(repaired(self.filled(79), [BATCH, NOTE_A]), "lines")
        self.assertEqual(repaired(self.filled(78), [BATCH, NOTE_A]), [(NOTE_A,)])

    def test_not_of_choices_that_are_not_tried(self):
        self.assertEqual(repaired(self.filled(80), [NOTE_A], asks=("ends",)), [()])
        # Both together have 81 lines, but one of them does.
        self.assertEqual(repaired(self.filled(79), [NOTE_A, ("peek", "e", "a")]), [(NOTE_A,)])
        steps = [BATCH, NOTE_A]
        self.assertEqual(len(changed(self.filled(77), steps)), 80)
        self.assertEqual(repaired(self.filled(78), steps), [(NOTE_A,)])

    def test_too_many_of_the_first_choice_that_has_them(self):
        deep = "batch/" * 8 + "set a = x/" + "end/" * 8
        text = f"cell a = 0/effect e/tell peek a/end/handler h x/{deep}end"
        more = 80 - len(text.split("/"))
        book = book_of(text.replace("effect e/", "effect e/" + "tell 0/" * more))
        self.assertEqual(repaired(book, [NOTE_A, BATCH]), "lines")
        book = book_of(text.replace("effect e/", "effect e/" + "tell 0/" * (more - 2)))
        self.assertEqual(repaired(book, [NOTE_A, BATCH]), "deep")
        self.assertEqual(repaired(book, [("peek", "e", "a"), BATCH]), "deep")

    wide = ("cell a = 0/cell b = 0/cell c = 0/cell d = 0/effect e/tell peek a/end/effect f/"
            "tell b/tell c/tell d/end/handler h x y/set a = x/set b = y/end/"
            "handler k x y/set c = x/set d = y/end")

    def test_too_many_events_as_judge_raises_it(self):
        book = book_of(self.wide)
        with self.assertRaises(TooMany):
            judge(book, asks=("ends",))
        for steps in ([], [NOTE_A], [NOTE_A, BATCH]):
            self.assertEqual(repaired(book, steps, asks=("ends",)), "events")

    def test_all_choices_of_one_number_are_tried(self):
        peek, note = ("peek", "e", "a"), ("note", "e", "b")
        text = "cell a = 0/cell b = 0/effect e/if a == 0/set a = 1/else/set a = 0/end/end"
        for many, outcome in ((79, [(peek,)]), (80, "lines")):
            more = many - len(text.split("/"))
            book = book_of(text.replace("effect e/", "effect e/" + "tell 0/" * more))
            for steps in ((peek, note), (note, peek)):
                self.assertEqual(repaired(book, steps, asks=("ends",)), outcome)
            self.assertEqual(repaired(book, (peek,), asks=("ends",)), [(peek,)])
            self.assertEqual(repaired(book, (note,), asks=("ends",)), [] if many == 79 else "lines")

    def test_too_many_ways_of_a_choice(self):
        first = "if t == 1/set t = 0/end/end/"
        text = (f"cell t = 0/effect e/{first}effect f/{first}effect g/if peek t == 1/set t = 0/end/end/"
                "handler h/set t = 1/set t = 1/end")
        book = book_of(text)
        note, batch = ("note", "g", "t"), ("batch", "h")
        self.assertFalse(judge(book, asks=("lean",), order="any"))
        self.assertEqual(repaired(book, [note], asks=("lean",), order="any"), "ways")
        self.assertEqual(repaired(book, [batch], asks=("lean",), order="any"), [])
        self.assertEqual(repaired(book, [batch, note], asks=("lean",), order="any"), "ways")
        self.assertEqual(repaired(book, [note], asks=("lean",)), [])


class AgainstAllChoices(unittest.TestCase):
    def choices(self, book, steps, asks, order):
        """Least repairs in the words of the point, from the first choice to the last."""
        for many in range(len(steps) + 1):
            try:
                found = [choice for choice in itertools.combinations(steps, many)
                         if judge(changed(book, choice), asks=asks, order=order)]
            except TooMany as why:
                return why.what
            if found:
                return found
        return []

    def test_many_books(self):
        answers = []
        for seed in range(150):
            draw = random.Random(seed)
            book = Chance(draw).book()
            offered = offered_by(book)
            steps = draw.sample(offered, min(len(offered), draw.randint(0, 3)))
            asks = [ask for ask in ("ends", "whole", "lean", "fresh") if draw.random() < 0.4]
            order = draw.choice(("book", "book", "any"))
            with self.subTest(seed=seed):
                found = repaired(book, steps, asks=asks, order=order)
                self.assertEqual(found, self.choices(book, steps, asks, order))
                answers.append("one" if found and found != [()] and isinstance(found, list) else found)
        for answer in ("one", [], [()], "events"):
            self.assertGreater(answers.count(answer), 1, answer)


if __name__ == "__main__":
    unittest.main()
