"""Points 4 and 5: words, numbers and how a line is written."""

import unittest

from tests.samples import FULL, wrong_at
from trackedreads.books import Book

KEPT = ("cell kept each effect handler let set tell note give if else end quiet batch wait "
        "peek").split()
GOOD_WORDS = ("a", "z", "ab", "abcdefgh", "zzzzzzzz", "cells", "ends", "iff", "els", "peeks", "true")
BAD_WORDS = ("", "abcdefghi", "A", "aB", "a1", "1a", "a_b", "_", "a-b", "a.b", "=", "==", "!=",
             "a\n", "\na", "\t", "\u00e4", "\u0430", "\u00df", "\u00aa", "0", "a" * 10000)
GOOD_NUMBERS = ("0", "1", "9", "10", "100", "7" * 30, "1" + "0" * 29)
BAD_NUMBERS = ("", "00", "01", "0" * 30, "-1", "+1", "-0", "1.0", "1_0", "1e3", "7" * 31, "1 0",
               "0x1", "\u0663", "\u00b2", "\uff11", "7" * 10000, "a")


class Words(unittest.TestCase):
    def every_place(self, name):
        """Lines of books in which this name stands, and its position in each."""
        return (
            (["cell @ = 0", "effect e", "end"], 0),
            (["cell c = 0", "kept @", "give 0", "end", "effect e", "end"], 1),
            (["cell c = 0", "each @", "give 0", "end", "effect e", "end"], 1),
            (["cell c = 0", "effect @", "end"], 1),
            (["cell c = 0", "effect e", "end", "handler @", "end"], 3),
            (["cell c = 0", "effect e", "end", "handler h @", "end"], 3),
            (["cell c = 0", "effect e", "end", "handler h @ x", "end"], 3),
            (["cell c = 0", "effect e", "end", "handler h x @", "end"], 3),
            (["cell c = 0", "effect e", "let @ = 0", "end"], 2),
        )

    def check(self, name, is_good):
        for lines, at in self.every_place(name):
            with self.subTest(name=name[:20], line=lines[at]):
                lines[at] = lines[at].replace("@", name)
                self.assertEqual(wrong_at(lines), None if is_good else at)

    def test_words_can_be_names(self):
        for name in GOOD_WORDS:
            self.check(name, True)

    def test_kept_words_cannot(self):
        self.assertEqual(len(KEPT), 17)
        for name in KEPT:
            self.check(name, False)

    def test_other_strings_cannot(self):
        for name in BAD_WORDS:
            self.check(name, False)

    def test_words_that_are_read_and_set(self):
        for name in GOOD_WORDS:
            lines = [f"cell {name} = 0", "effect q", f"note {name}", f"set {name} = {name}",
                     f"tell peek {name}", f"if {name} == peek {name}", "end", "end"]
            self.assertIsNone(wrong_at(lines))

    def test_kept_words_are_not_read_or_set(self):
        for name in KEPT:
            for line in (f"note {name}", f"set {name} = 0", f"tell {name}", f"tell peek {name}"):
                self.assertEqual(wrong_at(["cell c = 0", "effect e", line, "end"]), 2)


class Numbers(unittest.TestCase):
    def lines_with(self, number):
        return (
            ([f"cell a = {number}", "effect e", "end"], 0),
            (["cell c = 0", "effect e", f"tell {number}", "end"], 2),
            (["cell c = 0", "effect e", f"let x = {number}", "end"], 2),
            (["cell c = 0", "effect e", f"set c = {number}", "end"], 2),
            (["cell c = 0", "effect e", f"if {number} == c", "end", "end"], 2),
            (["cell c = 0", "effect e", f"if c != {number}", "end", "end"], 2),
            (["cell c = 0", "each s", f"give {number}", "end", "effect e", "end"], 2),
        )

    def test_numbers(self):
        for number in GOOD_NUMBERS:
            for lines, _ in self.lines_with(number):
                self.assertIsNone(wrong_at(lines))

    def test_what_is_no_number(self):
        for number in BAD_NUMBERS:
            for lines, at in self.lines_with(number):
                with self.subTest(line=lines[at][:40]):
                    self.assertEqual(wrong_at(lines), at)

    def test_the_number_of_a_cell_is_a_number_itself(self):
        self.assertEqual(wrong_at(["cell a = 0", "cell b = a"]), 1)
        self.assertEqual(wrong_at(["cell a = 0", "cell b = peek a"]), 1)

    def test_there_is_no_peek_of_a_number(self):
        self.assertEqual(wrong_at(["cell c = 0", "effect e", "tell peek 0", "end"]), 2)

    def test_their_values(self):
        book = Book(["cell a = " + "7" * 30, "effect e", "tell 10", "end"])
        self.assertEqual(book.cells, (("a", int("7" * 30)),))
        self.assertEqual(book.numbers, (10, int("7" * 30)))


class Blanks(unittest.TestCase):
    def disturbed(self, line):
        """The line with blanks, or other white space, where none may be, or without one."""
        for at, sign in enumerate(line):
            if sign == " ":
                yield line[:at] + "  " + line[at + 1:]
                yield line[:at] + "\t" + line[at + 1:]
                yield line[:at] + "\n" + line[at + 1:]
                # Two names of a handler's line make one name without it, which is no fault.
                if not line.startswith("handler") or at == len("handler"):
                    yield line[:at] + line[at + 1:]
        yield from (" " + line, line + " ", "\t" + line, line + "\t", line + "\n", "\n" + line,
                    line + " ;", line + " # why", line.upper())

    def test_one_blank_between_two_and_none_else(self):
        lines = FULL.split("\n")
        self.assertIsNone(wrong_at(lines))
        for at, line in enumerate(lines):
            for other in self.disturbed(line):
                with self.subTest(line=other):
                    self.assertEqual(wrong_at(lines[:at] + [other] + lines[at + 1:]), at)

    def test_no_empty_line_anywhere(self):
        lines = FULL.split("\n")
        for at in range(len(lines) + 1):
            for empty in ("", " ", "\n"):
                self.assertEqual(wrong_at(lines[:at] + [empty] + lines[at:]), at)

    def test_a_line_has_all_its_parts_and_no_more(self):
        for line in ("cell", "cell d", "cell d =", "cell d 0", "cell d == 0", "cell d = 0 0",
                     "cell = 0", "kept", "kept k k", "each", "each k k", "effect",
                     "effect f f", "handler", "d", "d = 0", "0", "=", "kept k = 0"):
            self.assertEqual(wrong_at(["cell c = 0", line]), 1)
        for line in ("let", "let x", "let x =", "let x c", "let x == c", "let x = c c",
                     "let x = peek", "let x = peek c c", "let x = peek peek c", "note",
                     "note c c", "note peek c", "note 0", "set", "set c", "set c =", "set c c",
                     "set c != 0", "set peek c = 0", "set 0 = 0", "set c = 0 0", "tell",
                     "tell c c", "tell = c", "wait c", "if", "if c", "if c ==", "if c == ",
                     "if == c", "if c = c", "if c c", "if c == c == c", "if c == c c",
                     "if c != != c", "if peek == c", "if c == peek", "if c == c else",
                     "quiet c", "else", "end c", "c", "peek c", "let 0 = 0"):
            with self.subTest(line=line):
                self.assertEqual(wrong_at(["cell c = 0", "effect e", line]), 2)
        for line in ("give", "give c c", "give = c", "give peek"):
            self.assertEqual(wrong_at(["cell c = 0", "each s", line]), 2)
        for line in ("else if c == c", "else end", "else c"):
            self.assertEqual(wrong_at(["cell c = 0", "effect e", "if c == c", line]), 3)

    def test_expressions_behind_peek_on_both_sides(self):
        lines = ["cell c = 0", "effect e", "if peek c != peek c", "end", "if 0 == peek c", "end",
                 "let x = peek c", "set c = peek c", "tell peek c", "end"]
        self.assertIsNone(wrong_at(lines))


if __name__ == "__main__":
    unittest.main()
