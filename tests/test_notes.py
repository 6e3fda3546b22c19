"""Points 9 to 12: what runs read and note, and which kept values are in order."""

import unittest

from tests.samples import book_of
from trackedreads.play import Play

HEAD = "cell a = 1/cell b = 2/cell c = 3/"
A, B, C = ("a", 1), ("b", 2), ("c", 3)


def play_of(text):
    """A play of the book with the cells a, b and c."""
    return Play(book_of(HEAD + text))


def effect(play, at=0):
    """The report and the notes of an effect."""
    return play.state()[2][at][:2]


def kept(play, at=0):
    return play.state()[1][at]


class NotesOfEffects(unittest.TestCase):
    def check(self, body, report, notes, answers=""):
        with self.subTest(body=body, answers=answers):
            play = play_of(f"{answers}effect e/{body}/end")
            self.assertEqual(effect(play), (report, notes))

    def test_in_the_order_of_the_first_noted_reads(self):
        self.check("tell b/tell a/tell c", (2, 1, 3), (B, A, C))
        self.check("tell b/tell a/tell b/tell c/tell a", (2, 1, 2, 3, 1), (B, A, C))
        self.check("tell peek a/tell b/tell a", (1, 2, 1), (B, A))
        self.check("quiet/tell a/end/tell b/tell a", (1, 2, 1), (B, A))

    def test_every_place_of_a_read(self):
        self.check("let x = a", (), (A,))
        self.check("note a", (), (A,))
        self.check("set c = a", (), (A,))
        self.check("if b == a/end", (), (B, A))
        self.check("if b != a/end", (), (B, A))
        self.check("if b == 2/tell c/else/tell a/end", (3,), (B, C))
        self.check("let x = a/tell x/tell x", (1, 1), (A,))
        self.check("tell 5/let x = 5/tell x", (5, 5), ())

    def test_reads_behind_peek_are_not_noted(self):
        self.check("tell peek a/let x = peek b/set c = peek b/if peek a == peek b/end", (1,), ())
        self.check("if peek a == b/end", (), (B,))
        self.check("tell a/tell peek b", (1, 2), (A,))

    def test_reads_in_quiet_blocks_are_not_noted(self):
        self.check("quiet/tell a/note b/let x = c/end", (1,), ())
        self.check("quiet/if a == 1/tell b/else/tell c/end/end/tell a", (2, 1), (A,))
        self.check("if a == 1/quiet/tell b/end/tell c/end", (2, 3), (A, C))
        self.check("quiet/quiet/tell a/end/tell b/end/tell c", (1, 2, 3), (C,))

    def test_each_answers_read_plainly_count_for_the_reader(self):
        low = "each i/note b/give a/end/"
        self.check("tell i", (1,), (B, A), low)
        self.check("tell a/tell i", (1, 1), (A, B), low)
        self.check("note i/tell c", (3,), (B, A, C), low)
        self.check("if i == 1/tell c/end", (3,), (B, A, C), low)
        self.check("let x = i", (), (B, A), low)

    def test_each_answers_read_peeked_or_quietly(self):
        low = "each i/note b/give a/end/"
        self.check("tell peek i", (1,), (), low)
        self.check("quiet/tell i/note i/end", (1,), (), low)
        self.check("tell peek i/tell i", (1, 1), (B, A), low)
        self.check("tell i/tell peek i", (1, 1), (B, A), low)

    def test_peek_and_quiet_in_each_answers(self):
        low = "each i/quiet/note b/end/if peek c == 3/give a/end/give c/end/"
        self.check("tell i", (1,), (A,), low)
        self.check("tell peek i", (1,), (), low)
        self.check("tell i", (2,), (A,), "each i/note a/quiet/give b/end/give c/end/")

    def test_each_answers_that_read_each_answers(self):
        low = "each i/note a/give peek b/end/"
        self.check("tell j", (2,), (C, A), low + "each j/note c/give i/end/")
        self.check("tell j", (2,), (C,), low + "each j/note c/give peek i/end/")
        self.check("tell j", (2,), (C,), low + "each j/note c/quiet/give i/end/give 0/end/")
        self.check("tell peek j", (2,), (), low + "each j/note c/give i/end/")

    def test_kept_answers_are_sources(self):
        low = "kept k/note c/give a/end/"
        self.check("tell k", (1,), (("k", 1),), low)
        self.check("tell b/note k/tell k/tell a", (2, 1, 1), (B, ("k", 1), A), low)
        self.check("tell peek k", (1,), (), low)
        self.check("quiet/tell k/end", (1,), (), low)
        self.check("tell i", (1,), (A, ("k", 1)), low + "each i/note a/give k/end/")
        self.check("tell i", (1,), (A,), low + "each i/note a/give peek k/end/")

    def test_notes_hold_the_value_of_the_first_noted_read(self):
        play = play_of("effect e/tell a/set a = 7/tell a/end")
        # The note (a, 1) makes it due; the second run reads what the first has set.
        self.assertEqual(list(play.reports()), [("e", (1, 7)), ("e", (7, 7))])
        self.assertEqual(effect(play), ((7, 7), (("a", 7),)))
        play = play_of("effect e/tell peek a/set a = 7/tell a/end")
        self.assertEqual(list(play.reports()), [("e", (1, 7))])
        self.assertEqual(effect(play)[1], (("a", 7),))

    def test_an_effect_sees_its_own_sets_through_answers(self):
        for kind in ("kept", "each"):
            play = play_of(f"{kind} k/give a/end/effect e/tell peek k/set a = 7/tell peek k/end")
            self.assertEqual(list(play.reports()), [("e", (1, 7))])

    def test_locals_with_the_names_of_other_things_are_no_reads(self):
        self.check("let e = a/let z = e/tell e/tell z", (1, 1), (A,))


class BehindWaits(unittest.TestCase):
    def test_reads_behind_a_wait_are_not_noted(self):
        for line in ("tell b", "note b", "note k", "tell k", "tell i", "note i"):
            play = play_of(f"kept k/give b/end/each i/give b/end/effect e/tell a/wait/{line}/end")
            self.assertEqual(play.state()[2][0][1], (A,))
            play.resume("e")
            self.assertEqual(play.state()[2][0][1], (A,))

    def test_nor_behind_a_wait_in_a_block_that_was_passed(self):
        body = "if a == 1/wait/else/tell c/end/tell b"
        play = play_of(f"effect e/{body}/end/handler h x/set a = x/end")
        play.resume("e")
        self.assertEqual(effect(play), ((2,), (A,)))
        play.call("h", 4)
        # This run does not pass the wait.
        self.assertEqual(effect(play), ((3, 2), (("a", 4), C, B)))

    def test_answers_read_behind_a_wait_keep_notes_of_their_own(self):
        play = play_of("kept k/note c/give b/end/effect e/wait/tell k/end")
        self.assertIsNone(kept(play))
        play.resume("e")
        self.assertEqual(kept(play), (2, (C, B)))
        self.assertEqual(effect(play), ((2,), ()))


class NotesOfKeptAnswers(unittest.TestCase):
    def check(self, body, value, notes, reading="tell k", answers=""):
        with self.subTest(body=body, reading=reading):
            play = play_of(f"{answers}kept k/{body}/end/effect e/{reading}/end")
            self.assertEqual(play.state()[1][-1], (value, notes))

    def test_notes_of_their_own(self):
        self.check("note c/note a/give b", 2, (C, A, B))
        self.check("note c/give peek b", 2, (C,))
        self.check("quiet/note c/end/give b", 2, (B,))
        self.check("quiet/if a == 1/give c/end/end/give b", 3, ())
        self.check("give 5", 5, ())

    def test_whatever_stands_around_the_read(self):
        for reading in ("tell peek k", "quiet/tell k/end", "note k", "quiet/note k/end",
                        "quiet/let x = peek k/end"):
            self.check("note c/give b", 2, (C, B), reading)

    def test_each_answers_count_for_them(self):
        low = "each i/note c/give a/end/"
        self.check("note b/give i", 1, (B, C, A), answers=low)
        self.check("note b/give peek i", 1, (B,), answers=low)
        self.check("quiet/note i/end/give b", 2, (B,), answers=low)

    def test_kept_answers_are_sources_for_them(self):
        play = play_of("kept k/note c/give a/end/kept l/note b/give k/end/effect e/tell l/end")
        self.assertEqual(play.state()[1], ((1, (C, A)), (1, (B, ("k", 1)))))
        self.assertEqual(effect(play)[1], (("l", 1),))
        play = play_of("kept k/note c/give a/end/kept l/note b/give peek k/end/effect e/tell l/end")
        self.assertEqual(play.state()[1], ((1, (C, A)), (1, (B,))))

    def test_handlers_note_nothing_but_work_answers_out(self):
        text = ("kept k/note c/give b/end/each i/give k/end/effect e/tell a/end/"
                "handler h/let x = k/end/handler m/let x = i/end/"
                "handler n/if peek k == a/end/end")
        self.assertIsNone(kept(play_of(text)))
        for name in ("h", "m", "n"):
            play = play_of(text)
            play.call(name)
            self.assertEqual(play.state()[1], ((2, (C, B)), None))
            self.assertEqual(effect(play), ((1,), (A,)))


class InOrder(unittest.TestCase):
    """What the handler look puts into c tells whether the answer was worked out anew."""

    text = ("kept k/note a/give b/end/effect e/end/"
            "handler seta x/set a = x/end/handler setb x/set b = x/end/handler look/"
            "set c = k/end")

    def look(self, play):
        play.call("look")
        return play["c"]

    def test_a_kept_value_stays_while_it_is_in_order(self):
        play = play_of(self.text.replace("give b", "give peek b"))
        self.assertEqual(self.look(play), 2)
        play.call("setb", 9)
        self.assertEqual(self.look(play), 2)
        play.call("seta", 5)
        self.assertEqual(self.look(play), 9)

    def test_it_stays_kept_out_of_order_until_it_is_read(self):
        play = play_of(self.text)
        self.look(play)
        play.call("seta", 5)
        self.assertEqual(kept(play), (2, (A, B)))
        self.look(play)
        self.assertEqual(kept(play), (2, (("a", 5), B)))

    def test_it_is_in_order_again_when_the_noted_values_are_back(self):
        play = play_of(self.text.replace("give b", "give peek b"))
        self.look(play)
        play.call("seta", 5)
        play.call("setb", 9)
        play.call("seta", 1)
        self.assertEqual(self.look(play), 2)
        self.assertEqual(kept(play), (2, (A,)))

    def test_without_notes_it_is_always_in_order(self):
        play = play_of(self.text.replace("note a/give b", "give peek b"))
        self.assertEqual(self.look(play), 2)
        play.call("setb", 9)
        play.call("seta", 9)
        self.assertEqual(self.look(play), 2)
        self.assertEqual(kept(play), (2, ()))

    def test_each_answers_are_never_kept(self):
        play = play_of(self.text.replace("kept", "each").replace("give b", "give peek b"))
        self.assertEqual(self.look(play), 2)
        play.call("setb", 9)
        self.assertEqual(self.look(play), 9)
        self.assertEqual(play.state()[1], (None,))


class Checks(unittest.TestCase):
    def test_a_check_works_an_answer_out_anew_and_keeps_it(self):
        play = play_of("kept k/if a == 3/give 8/end/give 2/end/effect e/tell k/end/"
                       "handler h x/set a = x/end")
        self.assertEqual(kept(play), (2, (A,)))
        self.assertEqual(play.call("h", 5), [])
        self.assertEqual(kept(play), (2, (("a", 5),)))
        self.assertEqual(effect(play), ((2,), (("k", 2),)))
        self.assertEqual(play.call("h", 3), [("e", (8,))])

    def test_a_check_of_an_answer_goes_through_other_answers(self):
        play = play_of("kept k/if a == 3/give 8/end/give 1/end/kept l/note k/give peek b/end/"
                       "effect e/tell l/end/handler h x/set a = x/end/handler m x/set b = x/end")
        play.call("m", 6)
        play.call("h", 5)
        # k is worked out anew with the same value, so that l is in order and keeps its own.
        self.assertEqual(play.state()[1], ((1, (("a", 5),)), (2, (("k", 1),))))
        self.assertEqual(play.call("h", 3), [("e", (6,))])

    def test_a_check_ends_at_the_first_source_that_differs(self):
        play = play_of("kept k/give b/end/effect e/if a == 1/tell k/end/end/"
                       "handler h x y/batch/set a = x/set b = y/end/end")
        self.assertEqual(effect(play)[1], (A, ("k", 2)))
        play.call("h", 5, 9)
        # The run behind the check does not read k, and the check did not come to it.
        self.assertEqual(kept(play), (2, (B,)))

    def test_a_check_of_the_notes_in_their_order(self):
        play = play_of("kept k/give b/end/effect e/if k == 2/tell a/end/end/"
                       "handler h x y/batch/set a = x/set b = y/end/end")
        self.assertEqual(effect(play)[1], (("k", 2), A))
        play.call("h", 5, 9)
        self.assertEqual(kept(play), (9, (("b", 9),)))

    def test_a_check_of_a_kept_value_ends_there_too(self):
        play = play_of("kept k/give b/end/kept l/if a == 1/give k/end/give 0/end/effect e/end/"
                       "handler h x y/batch/set a = x/set b = y/end/end/handler look/set c = l/end")
        play.call("look")
        play.call("h", 5, 9)
        play.call("look")
        self.assertEqual(play.state()[1], ((2, (B,)), (0, (("a", 5),))))

    def test_a_check_notes_nothing_for_the_run_under_way(self):
        play = play_of("kept k/give a/end/kept l/note k/give b/end/effect e/tell peek l/"
                       "set a = 7/tell peek l/end")
        self.assertEqual(effect(play), ((2, 2), ()))
        self.assertEqual(play.state()[1], ((7, (("a", 7),)), (2, (("k", 7), B))))


if __name__ == "__main__":
    unittest.main()
