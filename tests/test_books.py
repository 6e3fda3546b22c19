"""The interface of books.py, and point 2 where books rest on it."""

import unittest

from tests.samples import EXAMPLE, FULL
from trackedreads import books
from trackedreads.books import Book
from trackedreads.errors import BadBook, NoName

OTHER_VALUES = (None, True, False, 0, 1, -1, 10 ** 60, "", "z", "A", "a ", [], ["a"], (), ("a",),
                (("a", 0),), {}, [[["e"]]])


class Making(unittest.TestCase):
    def test_lists_tuples_and_texts_alike(self):
        lines = FULL.split("\n")
        for book in (Book(lines), Book(tuple(lines)), Book(lines=lines), Book.read(FULL),
                     Book.read(text=FULL)):
            self.assertEqual(book.lines, tuple(lines))
            self.assertEqual(book, Book(lines))

    def position(self, text):
        with self.assertRaises(BadBook) as caught:
            Book.read(text)
        return caught.exception.at

    def test_texts_that_are_no_books(self):
        self.assertEqual(self.position(""), 0)
        self.assertEqual(self.position("\n"), 0)
        self.assertEqual(self.position(EXAMPLE + "\n"), 15)
        self.assertEqual(self.position("\n" + EXAMPLE), 0)
        self.assertEqual(self.position(EXAMPLE.replace("\n", "\n\n")), 1)
        self.assertEqual(self.position(EXAMPLE.replace("\n", "\r\n")), 0)
        self.assertEqual(self.position("cell a = 0"), 1)

    def test_read_is_a_class_method(self):
        self.assertIsInstance(Book.__dict__["read"], classmethod)
        self.assertIs(Book.read(EXAMPLE).__class__, Book)

    def test_methods_are_defined_in_the_class_and_the_class_in_the_file(self):
        for name in ("__init__", "read", "body", "__contains__", "__len__", "__eq__", "__str__",
                     "MOST_LINES", "MOST_NUMBERS"):
            self.assertIn(name, Book.__dict__)
        self.assertEqual(Book.__module__, books.__name__)

    def test_the_lines_are_copied(self):
        lines = EXAMPLE.split("\n")
        book = Book(lines)
        lines[0] = "cell z = 9"
        del lines[3:]
        self.assertEqual(book.lines, tuple(EXAMPLE.split("\n")))
        self.assertEqual(book.cells, (("a", 0), ("b", 0)))
        self.assertEqual(book.body("h"), ("set a = x",))


class Attributes(unittest.TestCase):
    def test_example(self):
        book = Book.read(EXAMPLE)
        self.assertEqual(book.lines, tuple(EXAMPLE.split("\n")))
        self.assertEqual(book.cells, (("a", 0), ("b", 0)))
        self.assertEqual(book.answers, ())
        self.assertEqual(book.effects, ("e",))
        self.assertEqual(book.handlers, (("h", ("x",)), ("k", ("x",))))
        self.assertEqual(book.numbers, (0,))

    def test_full(self):
        book = Book.read(FULL)
        self.assertEqual(book.cells, (("a", 3), ("b", 7)))
        self.assertEqual(book.answers, (("sum", "kept"), ("twin", "each")))
        self.assertEqual(book.effects, ("e", "f"))
        self.assertEqual(book.handlers, (("h", ()), ("move", ("from", "to"))))
        self.assertEqual(book.numbers, (3, 7))

    def test_they_are_set_on_each_object(self):
        for name in ("lines", "cells", "answers", "effects", "handlers", "numbers"):
            self.assertIn(name, vars(Book.read(EXAMPLE)))

    def test_they_are_tuples_throughout(self):
        book = Book(FULL.split("\n"))
        for thing in (book.lines, book.cells, book.answers, book.effects, book.handlers,
                      book.numbers, book.cells[0], book.answers[0], book.handlers[1],
                      book.handlers[1][1], book.handlers[0][1]):
            self.assertIs(thing.__class__, tuple)

    def test_numbers_are_ascending_and_there_once(self):
        book = Book(["cell b = 20", "cell a = 100", "effect e", "tell 3", "tell 20",
                     "if 100 == 3", "end", "end", "handler h", "set a = 0", "end"])
        self.assertEqual(book.numbers, (0, 3, 20, 100))
        self.assertEqual([n.__class__ for n in book.numbers], [int] * 4)

    def test_names_keep_the_order_of_the_book(self):
        book = Book(["cell z = 0", "cell a = 0", "kept y", "give 0", "end", "each b", "give 0",
                     "end", "effect x", "end", "effect c", "end", "handler w", "end",
                     "handler d v u", "end"])
        self.assertEqual([name for name, _ in book.cells], ["z", "a"])
        self.assertEqual([name for name, _ in book.answers], ["y", "b"])
        self.assertEqual(book.effects, ("x", "c"))
        self.assertEqual(book.handlers, (("w", ()), ("d", ("v", "u"))))


class Bodies(unittest.TestCase):
    def test_bodies(self):
        book = Book.read(FULL)
        self.assertEqual(book.body("sum"), (
            "note a", "quiet", "if a == b", "give peek b", "else", "let one = a", "end", "end",
            "give a"))
        self.assertEqual(book.body("twin"), ("give sum",))
        self.assertEqual(
            book.body("e"), ("let x = twin", "wait", "set b = x", "tell peek sum"))
        self.assertEqual(book.body("f"), ())
        self.assertEqual(book.body("h"), ("batch", "set a = b", "end"))
        self.assertEqual(book.body(name="move"), ("if from != to", "set a = to", "end"))
        self.assertIs(book.body("f").__class__, tuple)

    def test_no_such_body(self):
        book = Book.read(FULL)
        for name in (*OTHER_VALUES, "a", "b", "x", "from", "one", "end", "effect e"):
            with self.assertRaises(NoName) as caught:
                book.body(name)
            self.assertEqual(caught.exception.name, name)
            self.assertIs(caught.exception.name.__class__, name.__class__)

    def test_the_name_in_the_error_is_a_copy(self):
        name = ["e"]
        with self.assertRaises(NoName) as caught:
            Book.read(FULL).body(name)
        name.append("f")
        self.assertEqual(caught.exception.name, ["e"])


class Contents(unittest.TestCase):
    def test_names_of_the_book(self):
        book = Book.read(FULL)
        for name in ("a", "b", "sum", "twin", "e", "f", "h", "move"):
            self.assertIs(name in book, True)

    def test_locals_and_other_values(self):
        book = Book.read(EXAMPLE)
        for thing in (*OTHER_VALUES, "x", "cell", "cell a = 0", "c"):
            self.assertIs(thing in book, False)
        for thing in ("one", "from", "to", "x", ("sum", "kept"), ["sum"]):
            self.assertIs(thing in Book.read(FULL), False)

    def test_length(self):
        self.assertEqual(len(Book.read(EXAMPLE)), 15)
        self.assertEqual(len(Book.read(FULL)), len(FULL.split("\n")))
        self.assertEqual(len(Book(["cell a = 0", "effect e", "end"])), 3)

    def test_equality(self):
        book = Book.read(EXAMPLE)
        self.assertTrue(book == Book(EXAMPLE.split("\n")))
        self.assertFalse(book != Book(EXAMPLE.split("\n")))
        self.assertFalse(book == Book.read(FULL))
        self.assertTrue(book != Book.read(FULL))
        self.assertFalse(book == Book.read(EXAMPLE.replace("handler h x", "handler h y")
                                           .replace("set a = x", "set a = y")))
        for thing in (EXAMPLE, book.lines, list(book.lines), *OTHER_VALUES):
            self.assertFalse(book == thing)
            self.assertTrue(book != thing)

    def test_string(self):
        for text in (EXAMPLE, FULL):
            self.assertEqual(str(Book.read(text)), text)
            self.assertEqual(Book.read(str(Book.read(text))), Book.read(text))
        self.assertEqual(str(Book(("cell a = 0", "effect e", "end"))), "cell a = 0\neffect e\nend")


if __name__ == "__main__":
    unittest.main()
