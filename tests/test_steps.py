"""Point 31 and the interface of repairs.py: steps that change a book."""

import itertools
import random
import unittest

from tests.chance import Chance
from tests.samples import EXAMPLE, FULL, book_of
from trackedreads import repairs
from trackedreads.books import Book
from trackedreads.errors import BadStep, TooMany
from trackedreads.play import Play
from trackedreads.repairs import bare, changed

# An answer of each kind, with locals in them that bear the names of things below.
ABOVE = ("cell a = 0/cell b = 1/kept p/let e = a/give e/end/each q/note p/if a == p/give peek p/end/"
         "let f = p/give f/end/effect e/let h = a/tell h/tell q/set a = a/end/effect f/end/"
         "handler h x/set a = a/end/handler k e/end")


def lines_after(text, *steps):
    return "/".join(changed(book_of(text), steps).lines)


def wrong_step(book, steps):
    try:
        changed(book, steps)
    except BadStep as why:
        return why.at
    return None


class Notes(unittest.TestCase):
    def test_at_the_head_of_the_body(self):
        text = "cell a = 0/kept p/give 0/end/effect e/tell 0/end/effect f/end"
        self.assertEqual(lines_after(text, ("note", "e", "a")),
                         "cell a = 0/kept p/give 0/end/effect e/note a/tell 0/end/effect f/end")
        self.assertEqual(lines_after(text, ("note", "f", "p")),
                         "cell a = 0/kept p/give 0/end/effect e/tell 0/end/effect f/note p/end")
        self.assertEqual(lines_after(text, ("note", "p", "a")),
                         "cell a = 0/kept p/note a/give 0/end/effect e/tell 0/end/effect f/end")

    def test_of_one_owner_in_the_order_passed(self):
        text = "cell a = 0/cell b = 0/kept p/give 0/end/effect e/tell 0/end/effect f/end"
        head = "cell a = 0/cell b = 0/kept p/give 0/end/effect e/"
        for names in itertools.permutations("abp"):
            steps = [("note", "e", name) for name in names]
            notes = "/".join(f"note {name}" for name in names)
            self.assertEqual(lines_after(text, *steps), f"{head}{notes}/tell 0/end/effect f/end")
            steps.insert(1, ("note", "f", "b"))
            self.assertEqual(lines_after(text, *steps), f"{head}{notes}/tell 0/end/effect f/note b/end")

    def test_a_name_that_is_noted_or_read_already(self):
        text = "cell a = 0/effect e/note a/tell a/end"
        self.assertEqual(lines_after(text, ("note", "e", "a")),
                         "cell a = 0/effect e/note a/note a/tell a/end")

    def test_answers_of_both_kinds_as_owners_and_names(self):
        changes = lines_after(ABOVE, ("note", "q", "p"), ("note", "e", "q"), ("note", "p", "b"))
        self.assertIn("kept p/note b/let e = a", changes)
        self.assertIn("each q/note p/note p/if", changes)
        self.assertIn("effect e/note q/let h = a", changes)


class Peeks(unittest.TestCase):
    def test_every_kind_of_line(self):
        text = ("cell a = 0/cell b = 0/kept p/note a/quiet/let x = a/end/if a == b/give a/else/"
                "if peek a != a/give b/end/end/give peek a/end/"
                "effect e/let x = a/let x = peek a/set a = a/set b = a/set a = b/tell a/tell peek a/"
                "note a/note b/if a != 0/note a/end/if 1 == a/wait/tell x/else/tell a/end/quiet/"
                "note a/tell a/end/end/handler h x/set a = a/if a == peek a/batch/set b = a/end/end/end")
        new = ("cell a = 0/cell b = 0/kept p/note a/quiet/let x = a/end/if a == b/give a/else/"
               "if peek a != a/give b/end/end/give peek a/end/"
               "effect e/let x = peek a/let x = peek a/set a = peek a/set b = peek a/set a = b/"
               "tell peek a/tell peek a/note b/if peek a != 0/end/if 1 == peek a/wait/tell x/else/"
               "tell peek a/end/quiet/tell peek a/end/end/"
               "handler h x/set a = a/if a == peek a/batch/set b = a/end/end/end")
        self.assertEqual(lines_after(text, ("peek", "e", "a")), new)
        new = ("cell a = 0/cell b = 0/kept p/quiet/let x = peek a/end/if peek a == b/give peek a/else/"
               "if peek a != peek a/give b/end/end/give peek a/end/")
        self.assertTrue(lines_after(text, ("peek", "p", "a")).startswith(new + "effect e/let x = a/"))

    def test_both_sides_of_a_comparison(self):
        for line, new in (("a == a", "peek a == peek a"), ("a != peek a", "peek a != peek a"),
                          ("peek a == b", "peek a == b"), ("b == a", "b == peek a"),
                          ("0 != a", "0 != peek a"), ("a == 0", "peek a == 0")):
            self.assertEqual(
                lines_after(f"cell a = 0/cell b = 0/effect e/if {line}/end/end", ("peek", "e", "a")),
                f"cell a = 0/cell b = 0/effect e/if {new}/end/end")

    def test_names_that_begin_or_end_alike(self):
        text = "cell a = 0/cell aa = 0/cell ba = 0/effect e/note aa/tell aa/set aa = ba/tell a/end"
        self.assertEqual(lines_after(text, ("peek", "e", "a")),
                         text.replace("tell a/end", "tell peek a/end"))
        self.assertEqual(lines_after(text, ("peek", "e", "ba")), text.replace("= ba", "= peek ba"))

    def test_answers(self):
        self.assertIn("each q/if a == peek p/give peek p/end/let f = peek p/give f/end",
                      lines_after(ABOVE, ("peek", "q", "p")))
        self.assertIn("tell h/tell peek q/", lines_after(ABOVE, ("peek", "e", "q")))

    def test_targets_and_locals_stay(self):
        self.assertIn("kept p/let e = peek a/give e/", lines_after(ABOVE, ("peek", "p", "a")))
        self.assertIn("effect e/let h = peek a/tell h/tell q/set a = peek a/end",
                      lines_after(ABOVE, ("peek", "e", "a")))

    def test_nothing_to_peek(self):
        for text in ("cell a = 0/effect e/end", "cell a = 0/effect e/tell peek a/set a = 1/end"):
            self.assertEqual(changed(book_of(text), [("peek", "e", "a")]), book_of(text))

    def test_a_body_of_notes_alone(self):
        self.assertEqual(lines_after("cell a = 0/effect e/note a/note a/end", ("peek", "e", "a")),
                         "cell a = 0/effect e/end")


class OtherSteps(unittest.TestCase):
    def test_batch(self):
        text = "cell a = 0/effect e/end/handler h x/set a = x/if a == x/end/end/handler k/end"
        self.assertEqual(lines_after(text, ("batch", "h")), text.replace(
            "set a = x/if a == x/end/end", "batch/set a = x/if a == x/end/end/end"))
        # Around an empty body, too.
        self.assertEqual(lines_after(text, ("batch", "k")), text[:-len("end")] + "batch/end/end")

    def test_batch_around_a_batch(self):
        text = "cell a = 0/effect e/end/handler h/batch/set a = 1/end/end"
        twice = changed(changed(book_of(text), [("batch", "h")]), (("batch", "h"),))
        self.assertEqual("/".join(twice.lines), "cell a = 0/effect e/end/handler h/batch/batch/batch/"
                         "set a = 1/end/end/end/end")

    def test_kinds_of_answers(self):
        text = "cell a = 0/kept p/give a/end/each q/give p/end/effect e/tell q/end"
        for kinds in itertools.product(("kept", "each"), repeat=2):
            steps = [(kind, name) for kind, name in zip(kinds, "pq")]
            self.assertEqual(
                lines_after(text, *steps),
                f"cell a = 0/{kinds[0]} p/give a/end/{kinds[1]} q/give p/end/effect e/tell q/end")
        # It is of this kind already.
        self.assertEqual(lines_after(text, ("kept", "p"), ("each", "q")), text)

    def test_both_kinds_for_one_answer(self):
        text = "cell a = 0/kept p/give a/end/effect e/end"
        self.assertEqual(lines_after(text, ("each", "p"), ("kept", "p")), text)
        self.assertEqual(lines_after(text, ("kept", "p"), ("each", "p")), text.replace("kept", "each"))


class Together(unittest.TestCase):
    text = ("cell a = 0/cell b = 0/kept p/note a/give a/end/effect e/note b/tell a/tell b/end/"
            "handler h x/set a = x/end")
    steps = (("peek", "e", "a"), ("note", "e", "a"), ("peek", "p", "a"), ("note", "p", "a"),
             ("batch", "h"), ("each", "p"))
    new = ("cell a = 0/cell b = 0/each p/note a/give peek a/end/effect e/note a/note b/tell peek a/"
           "tell b/end/handler h x/batch/set a = x/end/end")

    def test_in_every_order_the_same(self):
        for steps in itertools.permutations(self.steps):
            self.assertEqual(lines_after(self.text, *steps), self.new)

    def test_a_note_that_is_put_there_is_not_peeked_away(self):
        for steps in itertools.permutations((("note", "e", "b"), ("peek", "e", "b"))):
            self.assertEqual(lines_after(self.text, *steps), self.text.replace(
                "note b/tell a/tell b", "note b/tell a/tell peek b"))

    def test_no_step(self):
        for text in (self.text, "/".join(FULL.split("\n")), "/".join(EXAMPLE.split("\n")), ABOVE):
            for steps in ((), []):
                self.assertEqual(changed(book_of(text), steps), book_of(text))

    def test_one_by_one_in_the_order_of_the_kinds(self):
        for seed in range(60):
            draw = random.Random(seed)
            book = Chance(draw).book()
            offered = offered_by(book)
            steps = draw.sample(offered, min(len(offered), draw.randint(1, 6)))
            try:
                new = changed(book, steps)
            except TooMany:
                continue
            with self.subTest(seed=seed):
                one_by_one = book
                # Each note goes ahead of those that are there: the last one first.
                rows = [step for step in steps if step[0] == "peek"]
                rows += [step for step in reversed(steps) if step[0] == "note"]
                rows += [step for step in steps if len(step) == 2]
                for step in rows:
                    one_by_one = changed(one_by_one, [step])
                self.assertEqual(new, one_by_one)


def offered_by(book):
    """All steps that there are for the book, read off the words of the point."""
    steps = []
    for owner in [name for name, _ in book.answers] + list(book.effects):
        names = [name for name, _ in book.cells]
        for name, _ in book.answers:
            if name == owner:
                break
            names.append(name)
        steps += [(word, owner, name) for word in ("note", "peek") for name in names]
    steps += [("batch", name) for name, _ in book.handlers]
    return steps + [(kind, name) for kind in ("each", "kept") for name, _ in book.answers]


class NoSteps(unittest.TestCase):
    def test_all_that_there_are(self):
        for text in (ABOVE, EXAMPLE.replace("\n", "/"), FULL.replace("\n", "/")):
            for step in offered_by(book_of(text)):
                self.assertIsNone(wrong_step(book_of(text), [step]), step)

    def test_all_words_and_names(self):
        book = book_of(ABOVE)
        names = ("a", "b", "p", "q", "e", "f", "h", "k", "x", "zz", "")
        offered = offered_by(book)
        for word in ("note", "peek", "batch", "each", "kept", "cell", "effect", "set", ""):
            steps = [(word,)] + [(word, name) for name in names]
            steps += [(word, owner, name) for owner in names for name in names]
            for step in steps:
                at = None if step in offered else 0
                self.assertEqual(wrong_step(book, [step]), at, step)

    def test_things_below_the_owner_and_itself(self):
        book = book_of(ABOVE)
        for step in (("note", "p", "q"), ("peek", "p", "q"), ("note", "p", "p"), ("peek", "q", "q"),
                     ("note", "p", "e"), ("peek", "e", "f"), ("note", "e", "h"), ("note", "h", "a"),
                     ("peek", "h", "a"), ("note", "e", "x"), ("peek", "p", "e"), ("batch", "e"),
                     ("batch", "a"), ("each", "e"), ("kept", "a"), ("each", "h"), ("note", "a", "b")):
            self.assertEqual(wrong_step(book, [step]), 0, step)

    def test_values_of_every_other_kind(self):
        book = book_of(ABOVE)
        good = ("note", "e", "a")
        for other in (None, True, 0, 5, "", "note", "note e a", [], (), ["note", "e", "a"], list(good),
                      ("note", "e"), good + ("b",), ("note", ["e"], "a"), ("note", "e", ["a"]),
                      ("note", ("e",), "a"), ("note", "e", None), (None, "e", "a"), (True, "e", "a"),
                      (["note"], "e", "a"), ("batch",), ("batch", "h", "k"), ("batch", None),
                      ("batch", ["h"]), (("batch", "h"),), [("batch", "h")], ("each", 0), (("each",), "p"),
                      ("Note", "e", "a"), ("note", "e", "a "), ("note", "e", 0)):
            self.assertEqual(wrong_step(book, [other]), 0, other)
            self.assertEqual(wrong_step(book, (good, other, None)), 1, other)
            self.assertEqual(wrong_step(book, [good, ("batch", "k"), other, good]), 2, other)

    def test_an_entry_that_stands_twice(self):
        book = book_of(ABOVE)
        for step in offered_by(book):
            self.assertEqual(wrong_step(book, [step, step]), 1)
            other = ("note", "f", "a") if step != ("note", "f", "a") else ("note", "f", "b")
            self.assertEqual(wrong_step(book, [step, other, step, other]), 2)
        self.assertEqual(wrong_step(book, [("batch", "h"), None, ("batch", "h")]), 1)

    def test_ahead_of_too_many(self):
        book = book_of("cell a = 0/effect e/" + "tell 0/" * 77 + "end")
        self.assertEqual(wrong_step(book, [("note", "e", "a"), ("note", "e", "a")]), 1)


class Bounds(unittest.TestCase):
    def too_many(self, text, *steps):
        try:
            changed(book_of(text), steps)
        except TooMany as why:
            return why.what
        return None

    def filled(self, many, handler="handler h/end"):
        """A book of so many lines."""
        text = f"cell a = 0/effect e/end/{handler}"
        more = many - len(text.split("/"))
        return text.replace("effect e/", "effect e/" + "tell 0/" * more)

    def test_lines(self):
        self.assertEqual(len(book_of(self.filled(79))), 79)
        self.assertIsNone(self.too_many(self.filled(79), ("note", "e", "a")))
        self.assertEqual(self.too_many(self.filled(80), ("note", "e", "a")), "lines")
        self.assertIsNone(self.too_many(self.filled(78), ("batch", "h")))
        self.assertEqual(self.too_many(self.filled(79), ("batch", "h")), "lines")
        self.assertIsNone(self.too_many(self.filled(80), ("peek", "e", "a")))
        self.assertIsNone(self.too_many(self.filled(80)))

    def test_lines_that_a_peek_takes_away_make_room(self):
        text = self.filled(79).replace("effect e/tell 0/", "effect e/note a/note a/")
        self.assertEqual(len(book_of(text)), 80)
        self.assertIsNone(self.too_many(text, ("batch", "h"), ("peek", "e", "a")))
        self.assertEqual(self.too_many(text, ("batch", "h")), "lines")
        self.assertEqual(self.too_many(text, ("batch", "h"), ("peek", "e", "a"), ("note", "e", "a")),
                         "lines")

    def test_deep(self):
        for deep, what in ((7, None), (8, "deep")):
            inner = "handler h/" + "batch/" * deep + "set a = 1/" + "end/" * deep + "end"
            text = f"cell a = 0/effect e/end/{inner}"
            self.assertEqual(self.too_many(text, ("batch", "h")), what)
            self.assertIsNone(self.too_many(text, ("note", "e", "a")))

    def test_lines_ahead_of_deep(self):
        inner = "handler h/" + "batch/" * 8 + "end/" * 8 + "end"
        self.assertEqual(self.too_many(self.filled(78, inner), ("batch", "h")), "deep")
        self.assertEqual(self.too_many(self.filled(79, inner), ("batch", "h")), "lines")


class Bare(unittest.TestCase):
    def test_all_kinds_of_reads(self):
        text = ("cell a = 0/cell b = 0/kept p/note a/let u = b/give u/end/each q/if p == a/give p/else/"
                "note b/end/give peek a/end/effect e/note q/quiet/tell a/note p/end/tell q/tell p/"
                "set a = b/if a != b/end/end/handler h x/set a = b/let u = p/set b = q/end")
        new = ("cell a = 0/cell b = 0/kept p/let u = peek b/give u/end/each q/if peek p == peek a/"
               "give peek p/else/end/give peek a/end/effect e/quiet/tell peek a/end/tell peek q/"
               "tell peek p/set a = peek b/if peek a != peek b/end/end/"
               "handler h x/set a = b/let u = p/set b = q/end")
        self.assertEqual("/".join(bare(book_of(text)).lines), new)

    def test_its_own_result(self):
        for text in (EXAMPLE, FULL, ABOVE.replace("/", "\n")):
            once = bare(Book.read(text))
            self.assertEqual(bare(once), once)

    def test_of_many_books(self):
        for seed in range(60):
            book = Chance(random.Random(seed)).book()
            new = bare(book)
            self.assertEqual(new, changed(book, [step for step in offered_by(book)
                                                 if step[0] == "peek"]))
            self.assertEqual(bare(new), new)
            self.assertEqual((new.cells, new.answers, new.effects, new.handlers),
                             (book.cells, book.answers, book.effects, book.handlers))

    def test_it_notes_nothing(self):
        for seed in range(60):
            book = bare(Chance(random.Random(seed)).book())
            _, kept, effects = Play(book).state()
            for entry in kept:
                self.assertIn(entry and entry[1], (None, ()))
            for _, notes, _ in effects:
                self.assertEqual(notes, ())

    def test_at_the_bound_of_lines(self):
        book = book_of("cell a = 0/effect e/" + "tell a/" * 77 + "end")
        self.assertEqual(len(bare(book)), 80)


class WhatStays(unittest.TestCase):
    def test_the_book_and_the_steps(self):
        book = Book.read(FULL)
        lines = book.lines
        steps = [("note", "e", "a"), ("peek", "sum", "a"), ("batch", "h"), ("each", "sum")]
        before = list(steps)
        new = changed(book, steps)
        self.assertEqual((steps, book.lines, str(book)), (before, lines, FULL))
        text = str(new)
        steps.clear()
        self.assertEqual(str(new), text)
        self.assertNotEqual(new, book)
        bare(book)
        self.assertEqual(book.lines, lines)

    def test_a_book_of_the_same_kind(self):
        new = changed(book=Book.read(EXAMPLE), steps=(("note", "e", "b"),))
        self.assertIsInstance(new, Book)
        self.assertEqual(new.effects, ("e",))
        self.assertIsInstance(bare(book=Book.read(EXAMPLE)), Book)
        self.assertEqual(bare.__module__, repairs.__name__)
        self.assertEqual(changed.__module__, repairs.__name__)

    def test_large_numbers_stay_as_they_are_written(self):
        text = f"cell a = {10 ** 29}/effect e/tell {10 ** 28}/tell a/end"
        self.assertEqual(lines_after(text, ("peek", "e", "a")), text.replace("tell a", "tell peek a"))


if __name__ == "__main__":
    unittest.main()
