"""Point 7: expressions, and where locals are in force."""

import unittest

from tests.samples import BODIES, body, lines_of, wrong_at, wrong_in

# What uses the word w as an expression, in each kind of body.
USES = {
    "answer": ("give w", "let y = w", "if w == 0/end", "if 0 != w/end"),
    "effect": ("tell w", "set a = w", "let y = w", "if w == 0/end", "if a == w/end"),
    "handler": ("set a = w", "let y = w", "if w != 0/end", "if a == w/end"),
}


class InForce(unittest.TestCase):
    def check(self, ahead, is_known, behind=""):
        """Uses of w behind these lines, and ahead of those, in each kind of body."""
        for kind, uses in USES.items():
            for use in uses:
                text = body(kind, ahead, use, behind)
                want = None if is_known else len(lines_of(ahead))
                with self.subTest(kind=kind, text=text):
                    self.assertEqual(wrong_in(kind, text), want)

    def test_behind_its_let_and_not_ahead(self):
        self.check("let w = 0", True)
        self.check("let w = 0/let v = 1/if v == w/end", True)
        self.check("", False, "let w = 0")
        self.check("let v = 0", False)

    def test_inside_blocks_behind_its_let(self):
        self.check("let w = 0/if a == 0", True, "end")
        self.check("let w = 0/if a == 0/else", True, "end")
        self.check("let w = 0/if a == 0/if a == 1/else/if a == 2", True, "end/end/end")

    def test_to_the_end_of_its_block(self):
        self.check("if a == 0/let w = 0", True, "end")
        self.check("if a == 0/let w = 0/if b == 0/end", True, "end")
        self.check("if a == 0/let w = 0/end", False)
        self.check("if a == 0/if b == 0/let w = 0/end", False, "end")
        self.check("if a == 0/else/let w = 0/end", False)
        self.check("if a == 0/let w = 0/else/end", False)

    def test_not_in_the_other_branch(self):
        self.check("if a == 0/let w = 0/else", False, "end")
        self.check("if a == 0/else/let w = 0", True, "end")
        self.check("if a == 0/let w = 0/else/let w = 1", True, "end")
        self.check("if a == 0/let w = 0/else/let w = 1/end", False)

    def test_in_quiet_and_batch(self):
        self.assertIsNone(wrong_in("effect", "quiet/let w = 0/tell w/end"))
        self.assertEqual(wrong_in("effect", "quiet/let w = 0/end/tell w"), 3)
        self.assertIsNone(wrong_in("answer", "quiet/let w = 0/give w/end/give 0"))
        self.assertEqual(wrong_in("answer", "quiet/let w = 0/end/give w"), 3)
        self.assertIsNone(wrong_in("handler", "batch/let w = 0/set a = w/end"))
        self.assertEqual(wrong_in("handler", "batch/let w = 0/end/set a = w"), 3)

    def test_not_in_another_body(self):
        lines = ["cell a = 0", "effect e", "let w = 0", "end", "effect f", "tell w", "end"]
        self.assertEqual(wrong_at(lines), 5)
        lines = ["cell a = 0", "effect e", "end", "handler h w", "end", "handler g",
                 "set a = w", "end"]
        self.assertEqual(wrong_at(lines), 6)

    def test_a_let_of_a_local_in_force_leaves_its_block_as_it_was(self):
        self.check("let w = 0/if a == 0/let w = 1/end", True)
        self.check("let w = 0/if a == 0/let w = 1/else", True, "end")
        self.check("let w = 0/let w = w", True)
        self.check("if a == 0/let w = 0/if a == 1/let w = 2/end", True, "end")
        self.check("if a == 0/let w = 0/if a == 1/let w = 2/end/end", False)
        self.check("if a == 0/let w = 0/end/let w = 1", True)

    def test_a_local_is_not_in_force_in_its_own_let(self):
        for kind in BODIES:
            self.assertEqual(wrong_in(kind, body(kind, "let w = w")), 0)
            self.assertIsNone(wrong_in(kind, body(kind, "let w = 0/let w = w")))
            self.assertEqual(wrong_in(kind, body(kind, "if a == 0/let w = 0/end/let w = w")), 3)

    def test_lets_that_cannot_stand_put_nothing_in_force(self):
        self.assertEqual(wrong_in("effect", "let w = v/tell w"), 0)


class Parameters(unittest.TestCase):
    def test_they_are_locals_everywhere_in_the_body(self):
        self.assertIsNone(wrong_in("handler", "set a = p/if p == q/let y = q/else/set b = p/end"))
        self.assertIsNone(wrong_in("handler", "batch/set a = q/end/set b = p"))

    def test_a_let_gives_them_a_new_value(self):
        self.assertIsNone(wrong_in("handler", "let p = q/set a = p"))
        self.assertIsNone(wrong_in("handler", "if a == 0/let p = p/end/set a = p"))

    def test_they_are_no_sources(self):
        for line in ("set a = peek p", "let y = peek q", "set p = 0", "if peek p == 0"):
            self.assertEqual(wrong_in("handler", line), 0)


class Sources(unittest.TestCase):
    def test_cells_and_answers_above(self):
        for kind, uses in USES.items():
            for use in uses:
                for name in ("a", "b", "top", "peek a", "peek top"):
                    self.assertIsNone(wrong_in(kind, body(kind, use.replace("w", name))))

    def test_not_the_answer_itself_nor_those_below(self):
        for name in ("own", "low"):
            for use in (*USES["answer"], "note w"):
                self.assertEqual(wrong_in("answer", use.replace("w", name) + "/give 0"), 0)
                peeking = use.replace("w", "peek " + name) + "/give 0"
                self.assertEqual(wrong_in("answer", peeking), 0)
        lines = ["cell a = 0", "each s", "give t", "end", "each t", "give 0", "end"]
        self.assertEqual(wrong_at(lines), 2)
        lines = ["cell a = 0", "each t", "give 0", "end", "each s", "give t", "end",
                 "effect e", "end"]
        self.assertIsNone(wrong_at(lines))

    def test_no_effect_no_handler_and_no_unknown_word(self):
        for kind in ("effect", "handler"):
            for name in ("own", "e", "h", "other"):
                for use in USES[kind]:
                    self.assertEqual(wrong_in(kind, use.replace("w", name)), 0)
                    self.assertEqual(wrong_in(kind, use.replace("w", "peek " + name)), 0)

    def test_note_and_peek_want_a_cell_or_an_answer_above(self):
        for line in ("note a", "note top", "tell peek a", "tell peek top"):
            self.assertIsNone(wrong_in("effect", line))
        for line in ("note x", "tell peek x", "set a = peek x", "if peek x == x",
                     "if x == peek x"):
            self.assertEqual(wrong_in("effect", "let x = 0/" + line), 1)
        for line in ("note own", "note e", "note h", "tell peek own", "tell peek e"):
            self.assertEqual(wrong_in("effect", line), 0)

    def test_set_wants_a_cell(self):
        self.assertIsNone(wrong_in("effect", "set a = 0/set b = a"))
        for name in ("top", "own", "e", "h", "x", "other"):
            self.assertEqual(wrong_in("effect", f"let x = 0/set {name} = 0"), 1)
        for name in ("top", "own", "p", "e", "h", "other"):
            self.assertEqual(wrong_in("handler", f"set {name} = 0"), 0)

    def test_a_cell_below_does_not_exist_yet(self):
        self.assertEqual(wrong_at(["cell a = 0", "each s", "give b"]), 2)


class NamesOfLocals(unittest.TestCase):
    def test_no_cell_and_no_answer_above(self):
        for kind in BODIES:
            for name in ("a", "b", "top"):
                self.assertEqual(wrong_in(kind, body(kind, f"let {name} = 0")), 0)
                self.assertEqual(wrong_in(kind, body(kind, f"let {name} = {name}")), 0)

    def test_no_answer_above_in_effects_and_handlers(self):
        lines = ["cell a = 0", "kept k", "give 0", "end", "each i", "give 0", "end"]
        for name in "ki":
            self.assertEqual(wrong_at(lines + ["effect e", f"let {name} = 0"]), 8)
            self.assertEqual(
                wrong_at(lines + ["effect e", "end", "handler h", f"let {name} = 0"]), 10)

    def test_effects_handlers_later_answers_and_its_own_name(self):
        for kind, names in (("answer", ("own", "low", "e")), ("effect", ("own", "e", "h")),
                            ("handler", ("own", "e", "h"))):
            for name in names:
                for use in USES[kind]:
                    text = body(kind, f"let {name} = 1", use.replace("w", name))
                    self.assertIsNone(wrong_in(kind, text))

    def test_such_a_local_is_still_no_source(self):
        for name in ("own", "low"):
            self.assertEqual(wrong_in("answer", f"let {name} = 1/give peek {name}"), 1)
            self.assertEqual(wrong_in("answer", f"let {name} = 1/note {name}"), 1)

    def test_the_name_of_a_local_can_be_declared_later(self):
        lines = ["cell a = 0", "each s", "let t = a", "give t", "end", "kept t", "give s",
                 "end", "effect e", "let u = t", "tell u", "end", "effect u", "end",
                 "handler h t", "end"]
        self.assertEqual(wrong_at(lines), 14)
        lines[14] = "handler h v"
        self.assertIsNone(wrong_at(lines))


if __name__ == "__main__":
    unittest.main()
