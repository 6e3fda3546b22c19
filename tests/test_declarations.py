"""Point 5: the order of the declarations, and their names."""

import unittest

from tests.samples import wrong_at

DECLARED = {
    "cell": ["cell @ = 0"],
    "kept": ["kept @", "give 0", "end"],
    "each": ["each @", "give 0", "end"],
    "effect": ["effect @", "end"],
    "handler": ["handler @", "end"],
}
ORDER = {"cell": 0, "kept": 1, "each": 1, "effect": 2, "handler": 3}


def declared(kinds):
    """The lines of such declarations with the names n, nn, nnn and so on."""
    lines = []
    for many, kind in enumerate(kinds, 1):
        lines += [line.replace("@", "n" * many) for line in DECLARED[kind]]
    return lines


def can_be_next(ahead, kind):
    """Whether a declaration can follow those that stand ahead, by the words of point 5."""
    if kind == "cell":
        return all(other == "cell" for other in ahead)
    if "cell" not in ahead or (kind == "handler" and "effect" not in ahead):
        return False
    return all(ORDER[other] <= ORDER[kind] for other in ahead)


def good_orders(most):
    """All rows of up to so many kinds that the order allows."""
    rows = [()]
    for row in rows:
        if len(row) < most:
            rows += [row + (kind,) for kind in DECLARED if can_be_next(row, kind)]
    return rows


class Order(unittest.TestCase):
    def test_every_declaration_behind_every_good_row(self):
        rows = good_orders(5)
        self.assertIn(("cell", "kept", "each", "effect", "handler"), rows)
        for row in rows:
            ahead = declared(row)
            for kind in DECLARED:
                with self.subTest(row=row, kind=kind):
                    lines = declared(row + (kind,))
                    at = wrong_at(lines)
                    if not can_be_next(row, kind):
                        self.assertEqual(at, len(ahead))
                    elif kind in ("effect", "handler"):
                        self.assertIsNone(at)
                    else:
                        self.assertEqual(at, len(lines))

    def test_a_good_row_is_a_book_if_it_has_an_effect(self):
        for row in good_orders(5):
            lines = declared(row)
            self.assertEqual(wrong_at(lines), None if "effect" in row else len(lines))

    def test_no_declaration_inside_a_body(self):
        bodies = (
            ["cell c = 0", "kept s"], ["cell c = 0", "each s"], ["cell c = 0", "effect s"],
            ["cell c = 0", "effect e", "end", "handler s"],
            ["cell c = 0", "effect e", "if c == c"],
            ["cell c = 0", "effect e", "if c == c", "else"],
            ["cell c = 0", "effect e", "quiet"],
            ["cell c = 0", "effect e", "end", "handler s", "batch"],
        )
        for lines in bodies:
            for kind in DECLARED:
                line = DECLARED[kind][0].replace("@", "new")
                with self.subTest(lines=lines, line=line):
                    self.assertEqual(wrong_at(lines + [line]), len(lines))


class Names(unittest.TestCase):
    def test_a_name_used_again(self):
        book = declared(("cell", "cell", "kept", "each", "effect", "effect", "handler"))
        for kind in DECLARED:
            for many, other in enumerate(("cell", "cell", "kept", "each", "effect", "effect",
                                          "handler"), 1):
                row = ("cell", "cell", "kept", "each", "effect", "effect", "handler")[:many]
                if not can_be_next(row, kind):
                    continue
                ahead = declared(row)
                lines = [line.replace("@", "n" * many) for line in DECLARED[kind]]
                with self.subTest(kind=kind, other=other):
                    self.assertEqual(wrong_at(ahead + lines), len(ahead))
        self.assertIsNone(wrong_at(book))

    def test_every_earlier_name_is_in_use_for_a_handler(self):
        kinds = ("cell", "kept", "each", "effect", "handler")
        ahead = declared(kinds)
        for many in range(1, len(kinds) + 1):
            self.assertEqual(wrong_at(ahead + ["handler " + "n" * many, "end"]), len(ahead))
        self.assertIsNone(wrong_at(ahead + ["handler m", "end"]))


class Parameters(unittest.TestCase):
    head = ["cell a = 0", "kept k", "give 0", "end", "each i", "give 0", "end",
            "effect e", "end", "handler g", "end"]

    def position(self, line):
        at = wrong_at(self.head + [line, "end"])
        return at if at is None else at - len(self.head)

    def test_none_one_or_two(self):
        for line in ("handler h", "handler h x", "handler h x y"):
            self.assertIsNone(self.position(line))
        for line in ("handler h x y z", "handler h x y z w", "handler h ", "handler h x "):
            self.assertEqual(self.position(line), 0)

    def test_two_are_different(self):
        self.assertEqual(self.position("handler h x x"), 0)

    def test_no_cell_and_no_answer(self):
        for name in "aki":
            for line in (f"handler h {name}", f"handler h {name} x", f"handler h x {name}"):
                self.assertEqual(self.position(line), 0)

    def test_names_of_effects_and_handlers_and_its_own(self):
        for line in ("handler h e", "handler h g", "handler h h", "handler h h e",
                     "handler h g h"):
            self.assertIsNone(self.position(line))

    def test_no_numbers_signs_or_kept_words(self):
        for name in ("0", "1", "=", "==", "peek", "end"):
            self.assertEqual(self.position(f"handler h {name}"), 0)

    def test_the_name_of_a_later_handler(self):
        lines = self.head + ["handler h z", "set a = z", "end", "handler z", "end"]
        self.assertIsNone(wrong_at(lines))


if __name__ == "__main__":
    unittest.main()
