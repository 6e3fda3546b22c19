"""Point 8: the position of the first line that cannot stand, and the bounds."""

import unittest

from tests.samples import EXAMPLE, FULL, too_many, wrong_at
from trackedreads.books import Book
from trackedreads.errors import BadBook, TooMany

HEAD = ["cell a = 0", "effect e"]


def lines_in_all(many):
    """A book of so many lines."""
    return HEAD + ["tell a"] * (many - 3) + ["end"]


def cells(many):
    return [f"cell {'c' * n} = 0" for n in range(1, many + 1)]


def answers(many):
    return [line for n in range(1, many + 1) for line in ("kept " + "k" * n, "give 0", "end")]


def effects(many):
    return [line for n in range(1, many + 1) for line in ("effect " + "e" * n, "end")]


def handlers(many):
    return [line for n in range(1, many + 1) for line in ("handler " + "h" * n, "end")]


def nested(opening, many):
    return [opening] * many + ["end"] * many


def numbers(many, first=0):
    return [f"tell {n}" for n in range(first, first + many)]


class Positions(unittest.TestCase):
    def test_a_wrong_line_at_every_place(self):
        for text in (EXAMPLE, FULL):
            lines = text.split("\n")
            for at in range(len(lines) + 1):
                for wrong in ("", "cell", "0", None, 3, True, [], ("end",), ["end"], "end\n",
                              b"end"):
                    self.assertEqual(wrong_at(lines[:at] + [wrong] + lines[at:]), at)

    def test_only_the_first_of_several_counts(self):
        lines = FULL.split("\n")
        for at in range(len(lines)):
            self.assertEqual(wrong_at(lines[:at] + ["wrong"] * 3 + lines[at:] + [None]), at)
        self.assertEqual(wrong_at(["cell a = 0", "end", "cell a = 0", "else"]), 1)

    def test_lines_that_end_too_early(self):
        for text in (EXAMPLE, FULL):
            lines = text.split("\n")
            books = [many for many in range(len(lines) + 1) if wrong_at(lines[:many]) is None]
            for many in range(len(lines)):
                if many not in books:
                    self.assertEqual(wrong_at(lines[:many]), many)
        lines = EXAMPLE.split("\n")
        self.assertEqual([many for many in range(16) if wrong_at(lines[:many]) is None],
                         [9, 12, 15])

    def test_what_is_needed_at_least(self):
        self.assertEqual(wrong_at([]), 0)
        self.assertEqual(wrong_at(()), 0)
        self.assertEqual(wrong_at(["cell a = 0"]), 1)
        self.assertEqual(wrong_at(["cell a = 0", "kept s", "give 0", "end"]), 4)
        self.assertEqual(wrong_at(["cell a = 0", "effect e"]), 2)
        self.assertEqual(wrong_at(["cell a = 0", "effect e", "quiet", "end"]), 4)
        self.assertIsNone(wrong_at(["cell a = 0", "effect e", "end"]))
        self.assertEqual(wrong_at(["cell a = 0", "effect e", "end", "handler h"]), 4)
        self.assertEqual(wrong_at(["effect e", "end"]), 0)

    def test_values_of_other_kinds(self):
        for thing in (None, True, False, 0, 7, "", "cell a = 0", b"cell", {}, {"cell a = 0": 1},
                      set(), range(3), iter([])):
            self.assertEqual(wrong_at(thing), -1)
        for entry in (None, True, 0, (), [], ["cell a = 0"], ("cell a = 0",), {}):
            self.assertEqual(wrong_at([entry]), 0)
            self.assertEqual(wrong_at((entry, entry)), 0)

    def test_texts(self):
        for thing in (None, True, 3, [], ["cell a = 0"], ("cell a = 0", "effect e", "end"), b""):
            with self.assertRaises(BadBook) as caught:
                Book.read(thing)
            self.assertEqual(caught.exception.at, -1)

    def test_thousands_of_lines(self):
        lines = HEAD + ["tell a"] * 9000
        self.assertEqual(wrong_at(lines), 9002)
        self.assertEqual(wrong_at(lines + ["give a"] + lines), 9002)
        self.assertIsNone(wrong_at(lines + ["end"]))

    def test_thousands_of_open_blocks(self):
        lines = HEAD + ["quiet", "if a == 0", "let x = a", "else"] * 2000
        self.assertEqual(wrong_at(lines), 8002)
        self.assertEqual(wrong_at(lines + ["tell x"]), 8002)
        self.assertEqual(wrong_at(lines + ["else"]), 8002)
        self.assertEqual(wrong_at(lines[:-1] + ["tell x", "else", "else"]), 8003)
        lines = HEAD + nested("if a == 0", 4900)
        self.assertIsNone(wrong_at(lines + ["end"]))
        self.assertEqual(wrong_at(lines + ["end", "end"]), 9803)

    def test_thousands_of_locals_and_declarations(self):
        words = [a + b + c for a in "xyz" for b in "abcdefghijklmnopqrst" for c in "uvwxyz" * 3]
        words = list(dict.fromkeys(words))
        many = [f"let {word} = a" for word in words]
        self.assertIsNone(wrong_at(HEAD + many + ["end"]))
        declared = [line for word in words for line in ("kept " + word, "give a", "end")]
        self.assertIsNone(wrong_at(["cell a = 0"] + declared + ["effect e", "end"]))
        self.assertEqual(wrong_at(["cell a = 0"] + declared + ["each xau"]), len(declared) + 1)

    def test_lines_are_not_changed(self):
        lines = FULL.split("\n")
        Book(lines)
        self.assertEqual(lines, FULL.split("\n"))


class Bounds(unittest.TestCase):
    def test_class_values(self):
        self.assertEqual(
            [Book.MOST_LINES, Book.MOST_CELLS, Book.MOST_ANSWERS, Book.MOST_EFFECTS,
             Book.MOST_HANDLERS, Book.MOST_DEEP, Book.MOST_NUMBERS], [80, 4, 3, 3, 3, 8, 4])

    def test_lines(self):
        self.assertIsNone(too_many(lines_in_all(80)))
        self.assertEqual(too_many(lines_in_all(81)), "lines")
        self.assertEqual(too_many(lines_in_all(5000)), "lines")

    def test_cells(self):
        self.assertIsNone(too_many(cells(4) + effects(1)))
        self.assertEqual(too_many(cells(5) + effects(1)), "cells")

    def test_answers(self):
        self.assertIsNone(too_many(cells(1) + answers(3) + effects(1)))
        self.assertEqual(too_many(cells(1) + answers(4) + effects(1)), "answers")
        each = [line.replace("kept", "each") for line in answers(4)]
        self.assertEqual(too_many(cells(1) + each + effects(1)), "answers")

    def test_effects(self):
        self.assertIsNone(too_many(cells(1) + effects(3)))
        self.assertEqual(too_many(cells(1) + effects(4)), "effects")

    def test_handlers(self):
        self.assertIsNone(too_many(cells(1) + effects(1) + handlers(3)))
        self.assertEqual(too_many(cells(1) + effects(1) + handlers(4)), "handlers")

    def test_deep(self):
        for opening in ("quiet", "if a == a"):
            self.assertIsNone(too_many(HEAD + nested(opening, 8) + ["end"]))
            self.assertEqual(too_many(HEAD + nested(opening, 9) + ["end"]), "deep")
        behind = HEAD + ["end", "handler h"]
        self.assertIsNone(too_many(behind + nested("batch", 8) + ["end"]))
        self.assertEqual(too_many(behind + nested("batch", 9) + ["end"]), "deep")
        answer = ["cell a = 0", "each s"]
        rest = ["give a", "end", "effect e", "end"]
        self.assertIsNone(too_many(answer + nested("quiet", 8) + rest))
        self.assertEqual(too_many(answer + nested("quiet", 9) + rest), "deep")

    def test_an_else_is_as_deep_as_its_if(self):
        elses = ["if a == a", "else"] * 8 + ["end"] * 8
        self.assertIsNone(too_many(HEAD + elses + ["end"]))
        elses = ["if a == a", "else"] * 9 + ["end"] * 9
        self.assertEqual(too_many(HEAD + elses + ["end"]), "deep")

    def test_blocks_side_by_side_are_not_deep(self):
        self.assertIsNone(too_many(HEAD + nested("quiet", 1) * 20 + ["end"]))
        lines = HEAD + nested("quiet", 8) + ["end", "effect f"] + nested("quiet", 8) + ["end"]
        self.assertIsNone(too_many(lines))
        lines = HEAD + nested("quiet", 9) + ["end", "effect f", "end"]
        self.assertEqual(too_many(lines), "deep")

    def test_numbers(self):
        self.assertIsNone(too_many(HEAD + numbers(4) + ["end"]))
        self.assertEqual(too_many(HEAD + numbers(5) + ["end"]), "numbers")
        self.assertEqual(too_many(HEAD + numbers(4, 1) + ["end"]), "numbers")
        self.assertIsNone(too_many(HEAD + numbers(4) * 5 + ["end"]))

    def test_numbers_count_wherever_they_are_written(self):
        four = ["cell a = 1", "cell b = 2", "effect e", "tell 3", "tell 4"]
        self.assertIsNone(too_many(four + ["end"]))
        for more in (["let x = 5"], ["set a = 5"], ["tell 5"], ["if 5 == a", "end"],
                     ["if a != 5", "end"], ["quiet", "let x = 5", "end"]):
            self.assertEqual(too_many(four + more + ["end"]), "numbers")
        self.assertEqual(too_many(["cell c = 5"] + four + ["end"]), "numbers")
        self.assertEqual(
            too_many(four[:2] + ["each s", "give 1", "give 5", "end"] + four[2:] + ["end"]),
            "numbers")
        self.assertEqual(too_many(four + ["end", "handler h", "set a = 5", "end"]), "numbers")

    def test_two_beyond_at_once(self):
        beyond = {
            "lines": cells(1) + effects(1) + handlers(1)[:-1] + ["set c = c"] * 80 + ["end"],
            "cells": cells(5), "answers": answers(4), "effects": effects(4),
            "handlers": handlers(4),
        }
        order = ["lines", "cells", "answers", "effects", "handlers", "deep", "numbers"]
        self.assertEqual(too_many(beyond["lines"]), "lines")
        for one in range(7):
            for other in range(one + 1, 7):
                chosen = (order[one], order[other])
                lines = cells(5 if "cells" in chosen else 1)
                lines += answers(4 if "answers" in chosen else 1)
                lines += effects(4 if "effects" in chosen else 1)
                lines[-1:-1] = nested("quiet", 9 if "deep" in chosen else 8)
                lines[-1:-1] = numbers(5 if "numbers" in chosen else 4)
                lines[-1:-1] = ["tell c"] * (80 if "lines" in chosen else 1)
                lines += handlers(4 if "handlers" in chosen else 1)
                with self.subTest(chosen=chosen):
                    self.assertEqual(too_many(lines), chosen[0])

    def test_all_at_their_limits(self):
        lines = cells(4) + answers(3) + effects(3)
        lines[-1:-1] = nested("quiet", 8) + numbers(4)
        lines += handlers(3)
        lines[-1:-1] = ["set c = cc"] * (80 - len(lines))
        book = Book(lines)
        self.assertEqual(
            [len(book), len(book.cells), len(book.answers), len(book.effects),
             len(book.handlers), len(book.numbers)], [80, 4, 3, 3, 3, 4])

    def test_a_wrong_line_comes_ahead_of_every_bound(self):
        beyond = (
            lines_in_all(81), cells(5) + effects(1), cells(1) + answers(4) + effects(1),
            cells(1) + effects(4), cells(1) + effects(1) + handlers(4),
            HEAD + nested("quiet", 9) + ["end"], HEAD + numbers(5) + ["end"],
        )
        for lines in beyond:
            self.assertIsNotNone(too_many(lines))
            with self.assertRaises(BadBook) as caught:
                Book(lines + ["end"])
            self.assertEqual(caught.exception.at, len(lines))
            with self.assertRaises(BadBook) as caught:
                Book(lines + ["handler zz"])
            self.assertEqual(caught.exception.at, len(lines) + 1)

    def test_bounds_hold_for_texts_too(self):
        self.assertEqual(len(Book.read("\n".join(lines_in_all(80)))), 80)
        with self.assertRaises(TooMany):
            Book.read("\n".join(lines_in_all(81)))


if __name__ == "__main__":
    unittest.main()
