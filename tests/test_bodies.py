"""Point 6: which lines stand in which body, and how blocks are closed."""

import unittest

from tests.samples import BODIES, body, lines_of, wrong_at, wrong_in

# Each line of the table with what closes it, and the bodies in which it stands.
TABLE = (
    ("let x = a", "", "answer effect handler"),
    ("note a", "", "answer effect"),
    ("note top", "", "answer effect"),
    ("give a", "", "answer"),
    ("set a = b", "", "effect handler"),
    ("tell a", "", "effect"),
    ("wait", "", "effect"),
    ("if a == b", "end", "answer effect handler"),
    ("if a != b", "end", "answer effect handler"),
    ("if a != b/else", "end", "answer effect handler"),
    ("quiet", "end", "answer effect"),
    ("batch", "end", "handler"),
)
# Blocks with the bodies in which they stand: lines ahead and lines behind.
BLOCKS = (
    ("", "", "answer effect handler"),
    ("if a == 0", "end", "answer effect handler"),
    ("if a == 0", "else/end", "answer effect handler"),
    ("if a == 0/else", "end", "answer effect handler"),
    ("quiet", "end", "answer effect"),
    ("batch", "end", "handler"),
    ("if a == 0/quiet/if b == 0/else", "end/end/end", "answer effect"),
    ("batch/if a == 0/batch", "end/end/end", "handler"),
)


class Table(unittest.TestCase):
    def test_each_line_in_each_body_and_block(self):
        for kind in BODIES:
            for line, behind, kinds in TABLE:
                for opening, closing, block_kinds in BLOCKS:
                    if kind not in block_kinds:
                        continue
                    text = body(kind, opening, line, behind, closing)
                    first_bad = None if kind in kinds else len(lines_of(opening))
                    with self.subTest(kind=kind, text=text):
                        self.assertEqual(wrong_in(kind, text), first_bad)

    def test_each_block_in_the_bodies_that_do_not_know_it(self):
        self.assertEqual(wrong_in("handler", "quiet/end"), 0)
        self.assertEqual(wrong_in("answer", "batch/end/give 0"), 0)
        self.assertEqual(wrong_in("effect", "batch/end"), 0)
        self.assertEqual(wrong_in("effect", "quiet/batch/end/end"), 1)

    def test_no_line_of_a_body_stands_between_bodies(self):
        whole = ["cell a = 0", "cell b = 0", "each top", "give a", "end", "kept k", "give a",
                 "end", "effect e", "end", "effect f", "end", "handler h", "end", "handler g",
                 "end"]
        places = [0, 1, 2, 5, 8, 10, 12, 14, 16]
        lines = [lines_of(line)[0] for line, _, _ in TABLE] + ["else", "end"]
        for at in places:
            for line in lines:
                with self.subTest(at=at, line=line):
                    self.assertEqual(wrong_at(whole[:at] + [line] + whole[at:]), at)


class Elses(unittest.TestCase):
    def test_one_else_for_each_if(self):
        for kind in BODIES:
            self.assertIsNone(wrong_in(kind, body(kind, "if a == 0/else/end")))
            self.assertEqual(wrong_in(kind, body(kind, "if a == 0/else/else/end")), 2)
            self.assertEqual(wrong_in(kind, body(kind, "if a == 0/end/else/end")), 2)
            self.assertEqual(wrong_in(kind, body(kind, "else/end")), 0)

    def test_no_else_in_other_blocks(self):
        self.assertEqual(wrong_in("answer", "quiet/else/end/give 0"), 1)
        self.assertEqual(wrong_in("effect", "quiet/else/end"), 1)
        self.assertEqual(wrong_in("handler", "batch/else/end"), 1)
        self.assertEqual(wrong_in("effect", "if a == 0/quiet/else/end/end"), 2)
        self.assertEqual(wrong_in("handler", "if a == 0/batch/else/end/end"), 2)

    def test_an_else_belongs_to_the_innermost_if(self):
        inner = "if a == 0/if b == 0/else/end/else/end"
        for kind in BODIES:
            self.assertIsNone(wrong_in(kind, body(kind, inner)))
            self.assertEqual(wrong_in(kind, body(kind, inner + "/else")), 6)
            self.assertEqual(wrong_in(kind, body(kind, "if a == 0/else/if b == 0/end/else")), 4)
            self.assertIsNone(
                wrong_in(kind, body(kind, "if a == 0/else/if b == 0/else/end/end")))


class Ends(unittest.TestCase):
    def test_blocks_and_bodies_may_be_empty(self):
        for kind in ("effect", "handler"):
            self.assertIsNone(wrong_in(kind, ""))
            self.assertIsNone(wrong_in(kind, "if a == b/end"))
            self.assertIsNone(wrong_in(kind, "if a == b/else/end"))
        self.assertIsNone(wrong_in("effect", "quiet/end"))
        self.assertIsNone(wrong_in("handler", "batch/end"))

    def test_an_answer_ends_with_a_give(self):
        self.assertIsNone(wrong_in("answer", "give 0"))
        self.assertIsNone(wrong_in("answer", "note a/give top"))
        for text in ("", "note a", "let x = 0", "if a == b/give 0/end", "quiet/give 0/end",
                     "if a == b/give 0/else/give 1/end", "give 0/note a", "give 0/let x = 0",
                     "give 0/if a == b/end", "give 0/quiet/end"):
            with self.subTest(text=text):
                self.assertEqual(wrong_in("answer", text), len(lines_of(text)))

    def test_blocks_of_an_answer_need_no_give(self):
        self.assertIsNone(wrong_in("answer", "if a == b/end/quiet/note a/end/give 0"))

    def test_each_answers_too(self):
        self.assertEqual(wrong_at(["cell a = 0", "each s", "end"]), 2)
        self.assertEqual(wrong_at(["cell a = 0", "each s", "note a", "end"]), 3)
        self.assertEqual(wrong_at(["cell a = 0", "kept s", "end"]), 2)

    def test_an_end_too_many(self):
        for kind in BODIES:
            text = body(kind, "if a == b/end")
            self.assertEqual(wrong_in(kind, text + "/end"), len(lines_of(text)) + 1)


class BehindGive(unittest.TestCase):
    def test_lines_that_are_never_reached_follow_the_rules(self):
        self.assertIsNone(wrong_in("answer", "give 0/let x = a/note b/give x"))
        self.assertIsNone(wrong_in("answer", "give 0/if a == b/give 1/end/give 0/give 0"))
        self.assertIsNone(wrong_in("answer", "quiet/give 0/note a/end/give 0"))
        for line in ("tell a", "set a = 0", "wait", "batch", "note x", "give x", "let a = 0",
                     "else", "give low", "give own"):
            self.assertEqual(wrong_in("answer", "give 0/" + line), 1)


if __name__ == "__main__":
    unittest.main()
