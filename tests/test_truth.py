"""Point 13 and the interface of truth.py."""

import unittest

from tests.samples import EXAMPLE, FULL
from trackedreads import truth
from trackedreads.books import Book
from trackedreads.errors import NoName
from trackedreads.truth import true_report, true_value

BIG = 10 ** 60 - 1


def report(text, *values):
    """The true report of the effect e with this body, over cells a, b, c and two answers."""
    head = ["cell a = 0", "cell b = 0", "cell c = 0",
            "kept k", "give a", "end", "each i", "give k", "end", "effect e"]
    return true_report(Book(head + [line for line in text.split("/") if line] + ["end"]), "e",
                       values or (1, 2, 3))


def worth(kind, text, *values):
    """The true value of the answer s with this body, over cells a, b and c."""
    head = ["cell a = 0", "cell b = 0", "cell c = 0", f"{kind} s"]
    book = Book(head + text.split("/") + ["end", "effect e", "end"])
    return true_value(book, "s", values or (1, 2, 3))


class Reports(unittest.TestCase):
    def test_the_example(self):
        book = Book.read(EXAMPLE)
        self.assertEqual(true_report(book, "e", (0, 5)), (5,))
        self.assertEqual(true_report(book, "e", (1, 5)), (5,))
        self.assertEqual(true_report(book=book, effect="e", values=(1, 0)), (0,))

    def test_values_told_in_order(self):
        self.assertEqual(report("tell a/tell 7/tell peek c/tell b/tell a"), (1, 7, 3, 2, 1))

    def test_nothing_told(self):
        for text in ("", "note a", "set a = 5", "let x = a", "wait", "quiet/end",
                     "if a != a/tell a/end"):
            told = report(text)
            self.assertEqual(told, ())
            self.assertIs(told.__class__, tuple)

    def test_the_cells_of_the_book_do_not_matter(self):
        book = Book(["cell a = 5", "effect e", "tell a", "end"])
        for value in (0, 5, -3, BIG, -BIG):
            self.assertEqual(true_report(book, "e", (value,)), (value,))

    def test_own_sets_are_seen_behind_them(self):
        self.assertEqual(report("tell a/set a = 9/tell a/set a = b/tell a"), (1, 9, 2))
        self.assertEqual(report("set a = b/set b = 8/tell a/tell b/tell peek b"), (2, 8, 8))
        self.assertEqual(report("quiet/set a = 9/end/tell a"), (9,))
        self.assertEqual(report("set a = 9/if a == 9/tell 1/else/tell 0/end"), (1,))

    def test_answers_see_them_too(self):
        for name in ("k", "i", "peek k", "peek i"):
            self.assertEqual(report(f"tell {name}/set a = 9/tell {name}"), (1, 9))
            self.assertEqual(report(f"set a = 9/tell {name}/set a = 4/tell {name}"), (9, 4))
            self.assertEqual(report(f"let x = {name}/set a = 9/tell x"), (1,))
        self.assertEqual(report("note k/note i/set a = 9/tell k/tell i"), (9, 9))

    def test_sets_of_a_cell_that_an_answer_reads_by_way_of_another(self):
        book = Book(["cell a = 0", "cell b = 0", "each i", "give b", "end", "kept k",
                     "if a == 0", "give i", "end", "give a", "end", "effect e", "tell k",
                     "set b = 7", "tell k", "set a = 4", "tell k", "set a = 0", "tell k", "end"])
        self.assertEqual(true_report(book, "e", (0, 1)), (1, 7, 4, 7))

    def test_sets_are_gone_in_the_next_call(self):
        book = Book(["cell a = 0", "effect e", "tell a", "set a = 9", "end"])
        values = (1,)
        self.assertEqual([true_report(book, "e", values) for _ in range(3)], [(1,)] * 3)
        self.assertEqual(values, (1,))

    def test_waits_are_passed_at_once(self):
        self.assertEqual(report("tell a/wait/set a = 9/wait/wait/tell a/tell k/wait"), (1, 9, 9))
        self.assertEqual(report("let x = a/if a == 1/wait/tell x/end/quiet/wait/tell b/end"),
                         (1, 2))

    def test_if_and_else(self):
        for sign, same, other in (("==", (1,), (0,)), ("!=", (0,), (1,))):
            text = f"if a {sign} b/tell 1/else/tell 0/end"
            self.assertEqual(report(text, 4, 4, 0), same)
            self.assertEqual(report(text, 4, 5, 0), other)
            text = f"if a {sign} b/tell 1/end"
            self.assertEqual(report(text, 4, 4, 0), same if same == (1,) else ())
            self.assertEqual(report(text, 4, 5, 0), other if other == (1,) else ())
            text = f"if a {sign} b/else/tell 0/end/tell 9"
            self.assertEqual(report(text, 4, 4, 0), (9,) if same == (1,) else (0, 9))
            self.assertEqual(report(text, 4, 5, 0), (9,) if other == (1,) else (0, 9))

    def test_nested(self):
        text = ("if a == 0/if b != 0/tell 1/if c == 0/tell 2/else/tell 3/end/else/tell 0/end/"
                "else/quiet/if b == 0/else/tell 1/end/end/tell c/end/tell a")
        self.assertEqual(report(text, 0, 0, 0), (0, 0))
        self.assertEqual(report(text, 0, 1, 0), (1, 2, 0))
        self.assertEqual(report(text, 0, 1, 1), (1, 3, 0))
        self.assertEqual(report(text, 5, 0, 7), (7, 5))
        self.assertEqual(report(text, 5, 1, 7), (1, 7, 5))

    def test_locals(self):
        self.assertEqual(report("let x = a/let x = x/if a == 1/let x = 8/end/tell x"), (8,))
        self.assertEqual(report("let x = a/if a == 0/let x = 8/end/tell x"), (1,))
        self.assertEqual(report("if a == 1/let x = b/tell x/else/let x = c/tell x/end"), (2,))
        self.assertEqual(report("let x = a/set a = 9/tell x/tell a"), (1, 9))

    def test_a_local_with_the_name_of_the_effect(self):
        self.assertEqual(report("let e = b/tell e"), (2,))

    def test_other_effects_and_handlers_do_nothing(self):
        book = Book.read(FULL)
        self.assertEqual(true_report(book, "f", (3, 7)), ())
        # The answer sees the cell that was set: it gives peek b where a and b are the same.
        self.assertEqual(true_report(book, "e", (3, 7)), (3,))

    def test_each_report_is_a_new_one_and_of_integers(self):
        book = Book.read(EXAMPLE)
        self.assertEqual(true_report(book, "e", (0, BIG)), (BIG,))
        self.assertIs(true_report(book, "e", (0, BIG)).__class__, tuple)


class Values(unittest.TestCase):
    def test_each_and_kept_alike(self):
        for kind in ("each", "kept"):
            self.assertEqual(worth(kind, "give b"), 2)
            self.assertEqual(worth(kind, "give peek c"), 3)
            self.assertEqual(worth(kind, "give 40"), 40)
            self.assertEqual(worth(kind, "note a/let x = c/give x"), 3)
            self.assertEqual(worth(kind, "give a", BIG, 0, 0), BIG)

    def test_a_give_ends_the_body(self):
        for kind in ("each", "kept"):
            self.assertEqual(worth(kind, "give a/give b"), 1)
            self.assertEqual(worth(kind, "quiet/give a/end/give b"), 1)
            self.assertEqual(worth(kind, "if a == 1/give c/end/give b"), 3)
            self.assertEqual(worth(kind, "if a != 1/give c/end/give b"), 2)
            self.assertEqual(worth(kind, "if a != 1/give c/else/give a/end/give b"), 1)
            self.assertEqual(
                worth(kind, "if a == 1/quiet/if b == 2/give 7/end/end/end/give b"), 7)
            self.assertEqual(worth(kind, "quiet/if b == 3/give 7/end/end/give b"), 2)

    def test_answers_that_read_answers(self):
        for first in ("each", "kept"):
            for second in ("each", "kept"):
                book = Book(["cell a = 0", f"{first} s", "if a == 0", "give 5", "end", "give a",
                             "end", f"{second} t", "if s == peek s", "give s", "end", "give 0",
                             "end", "effect e", "tell t", "tell s", "end"])
                self.assertEqual(true_value(book, "t", (0,)), 5)
                self.assertEqual(true_value(book=book, answer="t", values=(8,)), 8)
                self.assertEqual(true_value(book, "s", (8,)), 8)
                self.assertEqual(true_report(book, "e", (0,)), (5, 5))

    def test_a_local_with_the_name_of_a_later_answer_or_its_own(self):
        book = Book(["cell a = 0", "each s", "let s = a", "let t = s", "give t", "end",
                     "kept t", "give 5", "end", "effect e", "tell s", "tell t", "end"])
        self.assertEqual(true_value(book, "s", (3,)), 3)
        self.assertEqual(true_value(book, "t", (3,)), 5)
        self.assertEqual(true_report(book, "e", (3,)), (3, 5))

    def test_locals_of_different_bodies_are_different(self):
        book = Book(["cell a = 0", "each s", "let x = a", "give x", "end", "each t",
                     "let x = 7", "let y = s", "give x", "end", "effect e", "let x = 4",
                     "let y = t", "tell x", "tell y", "tell s", "end"])
        self.assertEqual(true_value(book, "t", (3,)), 7)
        self.assertEqual(true_report(book, "e", (3,)), (4, 7, 3))

    def test_many_reads_of_long_answers(self):
        lines = ["cell a = 0"]
        for name, other in (("s", "a"), ("t", "s"), ("u", "t")):
            lines += [f"each {name}"] + [f"note {other}"] * 14 + [f"give {other}", "end"]
        lines += ["effect e"] + ["tell u"] * 20 + ["end"]
        self.assertEqual(true_report(Book(lines), "e", (6,)), (6,) * 20)


class WrongNames(unittest.TestCase):
    others = (None, True, False, 0, 1, "", "z", [], ["e"], (), ("e",), [["sum"]], 10 ** 60)

    def test_no_such_effect(self):
        book = Book.read(FULL)
        for name in (*self.others, "a", "sum", "twin", "h", "move", "x"):
            with self.assertRaises(NoName) as caught:
                true_report(book, name, (3, 7))
            self.assertEqual(caught.exception.name, name)
            self.assertIs(caught.exception.name.__class__, name.__class__)

    def test_no_such_answer(self):
        book = Book.read(FULL)
        for name in (*self.others, "a", "e", "f", "h", "move", "one"):
            with self.assertRaises(NoName) as caught:
                true_value(book, name, (3, 7))
            self.assertEqual(caught.exception.name, name)
            self.assertIs(caught.exception.name.__class__, name.__class__)

    def test_defined_in_this_file(self):
        for thing in (true_report, true_value):
            self.assertEqual(thing.__module__, truth.__name__)


if __name__ == "__main__":
    unittest.main()
