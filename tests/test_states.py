"""Points 21 and 25: states, those that plays lead to and all others."""

import unittest

from tests.samples import EXAMPLE, FULL, book_of
from trackedreads.books import Book
from trackedreads.errors import BadState
from trackedreads.judging import judge
from trackedreads.play import Play
from trackedreads.states import canonical, events, ways

BOOK = book_of(
    "cell a = 0/cell b = 5/kept k/note b/give a/end/each i/give k/end/kept l/note k/give b/end/"
    "effect e/let u = a/let t = b/tell u/wait/tell l/wait/tell t/end/effect f/tell i/end/"
    "handler h x/set a = x/end")
VALUES = (3, 4)
KEPT = ((3, (("b", 4), ("a", 3))), None, None)
E = ((1, 2), (("l", 9), ("a", 3)), (3, (("t", 4), ("u", 3)), (7,)))
F = (None, (("k", 3),), None)
STATE = (VALUES, KEPT, (E, F))
# Any values that are no integer, no tuple of integers, no pair and no name in any place.
OTHERS = (True, False, "", "a", "k", [], [0, 0], (None,), ((),), ("a",), (("a",),), ((0, 0),),
          (("a", "b"),), (["a", 0],), (("a", 0, 0),), ((("a", 0),),), [("a", 0)])


def part_of(state, book=BOOK):
    """The part that BadState tells of; None if it is a state."""
    try:
        Play(book, state=state)
    except BadState as why:
        return why.part
    return None


def with_part(at, worth):
    return STATE[:at] + (worth,) + STATE[at + 1:]


def with_effect(at, worth):
    """The state with another part in the first effect."""
    return (VALUES, KEPT, (E[:at] + (worth,) + E[at + 1:], F))


def with_kept(at, worth):
    return (VALUES, KEPT[:at] + (worth,) + KEPT[at + 1:], (E, F))


class Parts(unittest.TestCase):
    def test_the_state_of_the_example(self):
        play = Play(Book.read(EXAMPLE))
        self.assertEqual(play.state(), ((0, 0), (), (((0,), (("a", 0), ("b", 0)), None),)))
        play.call("h", 1)
        self.assertEqual(play.state(), ((1, 0), (), (((0,), (("a", 1),), None),)))

    def test_a_state_in_each_of_its_parts(self):
        play = Play(BOOK)
        self.assertEqual(play.state(), (
            (0, 5),
            ((0, (("b", 5), ("a", 0))), None, None),
            ((None, (("a", 0), ("b", 5)), (3, (("t", 5), ("u", 0)), (0,))),
             ((0,), (("k", 0),), None))))
        play.resume("e")
        self.assertEqual(play.state()[1], ((0, (("b", 5), ("a", 0))), None, (5, (("k", 0), ("b", 5)))))
        self.assertEqual(play.state()[2][0][2], (5, (("t", 5), ("u", 0)), (0, 5)))
        play.resume("e")
        self.assertEqual(play.state()[2][0], ((0, 5, 5), (("a", 0), ("b", 5)), None))

    def test_no_locals_and_nothing_told(self):
        play = Play(book_of("cell a = 0/effect e/wait/end"))
        self.assertEqual(play.state(), ((0,), (), ((None, (), (0, (), ())),)))

    def test_place_counts_all_lines_of_the_body(self):
        play = Play(book_of("cell a = 0/effect e/note a/if a == a/quiet/wait/end/end/wait/end"))
        self.assertEqual(play.state()[2][0][2][0], 3)
        play.resume("e")
        self.assertEqual(play.state()[2][0][2][0], 6)

    def test_tuples_throughout(self):
        def check(thing):
            if thing.__class__ not in (int, str, None.__class__):
                self.assertIs(thing.__class__, tuple)
                for part in thing:
                    check(part)
        play = Play(BOOK)
        check(play.state())
        play.resume("e")
        check(play.state())


class MadeFromStates(unittest.TestCase):
    def test_the_state_comes_back(self):
        for state in (STATE, with_part(1, (None, None, None)), Play(BOOK).state()):
            play = Play(BOOK, state=state)
            self.assertEqual(play.state(), state)
            self.assertEqual(play.present, state[0])

    def test_nothing_has_happened_in_it(self):
        play = Play(BOOK, state=STATE, picks=(1, 2))
        self.assertEqual(len(play), 0)
        self.assertEqual(list(play.reports()), [])
        self.assertEqual(play.faults, [])
        self.assertEqual(play.choices, ())
        self.assertEqual(play.waiting, ("e",))
        self.assertIs(play.is_over, False)
        play.call("h", 1)
        self.assertEqual(len(play), 1)

    def test_it_goes_on_as_the_first_play_does(self):
        play = Play(Book.read(FULL))
        for event in (("resume", "e", ()), ("call", "move", (3, 8), ()), ("call", "h", (), ()),
                      ("resume", "e", ()), ("call", "move", (7, 9), (1,))):
            other = Play(Book.read(FULL), state=play.state())
            self.assertEqual(other.do(event), play.do(event))
            self.assertEqual(other.state(), play.state())
            self.assertEqual(other.faults, play.faults)
            self.assertEqual(other.choices, play.choices)

    def test_no_play_needs_to_lead_to_it(self):
        # Kept values and notes that no run would leave; they are taken as they are.
        state = (VALUES, ((77, ()), None, None), (((8,), (("k", 5),), None), F))
        play = Play(BOOK, state=state)
        self.assertEqual(play.state(), state)
        # Neither effect's note is the kept value, which holds for ever; e is run to its wait.
        self.assertEqual(play.call("h", 3), [("f", (77,))])
        self.assertEqual(play.state(), (
            VALUES, ((77, ()), None, None),
            (((8,), (("a", 3), ("b", 4)), (3, (("t", 4), ("u", 3)), (3,))),
             ((77,), (("k", 77),), None))))

    def test_it_goes_on_in_the_middle_of_a_run(self):
        play = Play(BOOK, state=with_effect(2, (5, (("t", 40), ("u", 30)), (9, 8, 7))))
        self.assertEqual(play.resume("e")[0], ("e", (9, 8, 7, 40)))

    def test_asking_changes_nothing_and_works_nothing_out(self):
        state = with_part(1, ((9, (("a", 99),)), None, None))
        play = Play(BOOK, state=state)
        for _ in range(2):
            self.assertEqual(play.state(), state)
            self.assertEqual((play.present, play.waiting, play.faults), (VALUES, ("e",), []))
            self.assertEqual((play.choices, list(play.reports()), play["a"]), ((), [], 3))
            self.assertEqual((len(play), play.is_over), (0, False))


class GoodStates(unittest.TestCase):
    def test_every_value_may_be_another_integer(self):
        big = 10 ** 60 - 1
        for n in (0, -1, big, -big):
            state = ((n, n), ((n, (("b", n),)), None, (n, (("k", n), ("a", n)))),
                     (((n, n, n), (("l", n),), (5, (("t", n), ("u", n)), (n,))), ((), (), None)))
            self.assertIsNone(part_of(state))
            self.assertEqual(Play(BOOK, state=state).state(), state)

    def test_reports_notes_and_what_was_told_may_be_empty_or_long(self):
        self.assertIsNone(part_of(with_effect(0, None)))
        self.assertIsNone(part_of(with_effect(0, ())))
        self.assertIsNone(part_of(with_effect(0, (1,) * 2000)))
        self.assertIsNone(part_of(with_effect(1, ())))
        self.assertIsNone(part_of(with_effect(2, None)))
        self.assertIsNone(part_of(with_effect(2, (3, (("t", 4), ("u", 3)), ()))))
        self.assertIsNone(part_of(with_effect(1, (("k", 0), ("l", 0), ("b", 0), ("a", 0)))))

    def test_kept_answers_note_what_stands_above(self):
        self.assertIsNone(part_of(with_kept(0, (0, ()))))
        self.assertIsNone(part_of(with_kept(0, (0, (("a", 1), ("b", 1))))))
        self.assertIsNone(part_of(with_kept(2, (0, (("k", 1), ("b", 1), ("a", 1))))))


class WrongStates(unittest.TestCase):
    @classmethod
    def setUpClass(cls):
        cls.verdict = judge(BOOK, asks=())

    def check(self, part, *states):
        for state in states:
            with self.subTest(state=state):
                self.assertEqual(part_of(state), part)
                for asked in (lambda: canonical(BOOK, state), lambda: events(BOOK, state),
                              lambda: ways(BOOK, state, ("call", "zzz", (), ()))):
                    with self.assertRaises(BadState) as caught:
                        asked()
                    self.assertEqual(caught.exception.part, part)
                self.assertIs(self.verdict.covers(state), False)

    def test_no_tuple_of_three(self):
        self.check(-1, *OTHERS, 0, 10 ** 60, (), VALUES, STATE[:2], STATE + ((),), list(STATE),
                   (STATE,), "abc", [VALUES, KEPT, (E, F)])

    def test_values(self):
        self.check(0, *(with_part(0, other) for other in (*OTHERS, None, 0, (), (1,), (1, 2, 3))),
                   *(with_part(0, (3, other)) for other in (*OTHERS, None, (3,))),
                   *(with_part(0, (other, 4)) for other in (*OTHERS, None)))

    def test_kept(self):
        self.check(1, *(with_part(1, other) for other in (*OTHERS, None, 0, (), KEPT[:2],
                                                          KEPT + (None,), list(KEPT))))

    def test_one_kept_value(self):
        for at in (0, 2):
            self.check(1, *(with_kept(at, other) for other in (*OTHERS, 0, (), (3,), [3, ()],
                                                               (3, (), ()))))
            self.check(1, *(with_kept(at, (other, ())) for other in (*OTHERS, None, ())))
            self.check(1, *(with_kept(at, (3, other)) for other in (*OTHERS, None, 0)))

    def test_an_each_answer_has_none(self):
        self.check(1, *(with_kept(1, other) for other in (*OTHERS, 0, (), (3, ()), KEPT[0])))

    def test_notes_of_kept_values(self):
        for name in ("k", "i", "l", "e", "h", "x", "u", "", "z", 0, None, ("a",)):
            self.check(1, with_kept(0, (3, ((name, 1),))))
        for name in ("i", "l", "e", "zz"):
            self.check(1, with_kept(2, (3, (("a", 1), (name, 1)))))
        self.check(1, with_kept(0, (3, (("a", 1), ("a", 1)))))
        self.check(1, with_kept(0, (3, (("a", 1), ("b", 1), ("a", 2)))))
        for other in (*OTHERS, None):
            self.check(1, with_kept(0, (3, (("a", other),))), with_kept(0, (3, (("b", 1), other))))

    def test_effects(self):
        self.check(2, *(with_part(2, other) for other in (*OTHERS, None, 0, (), (E,), (E, F, F),
                                                          [E, F], (E, None), (list(E), F))))
        self.check(2, (VALUES, KEPT, (E[:2], F)), (VALUES, KEPT, (E + (None,), F)),
                   (VALUES, KEPT, (E, F[:2])))

    def test_reports(self):
        self.check(2, *(with_effect(0, other) for other in (*OTHERS, 0, "", [1, 2], (1, None))))

    def test_notes_of_effects(self):
        self.check(2, *(with_effect(1, other) for other in (*OTHERS, None, 0)))
        for name in ("i", "e", "f", "h", "u", "t", "x", "", 0, None):
            self.check(2, with_effect(1, (("a", 1), (name, 1))))
        for other in (*OTHERS, None):
            self.check(2, with_effect(1, (("a", other),)))
        self.check(2, with_effect(1, (("k", 1), ("k", 1))), with_effect(1, (("k", 1), ("k", 2))))

    def test_waits(self):
        self.check(2, *(with_effect(2, other) for other in (*OTHERS, 0, (), E[2][:2], list(E[2]),
                                                            E[2] + ((),))))

    def test_places(self):
        known = (("t", 4), ("u", 3))
        for place in (*OTHERS, None, 0, 1, 2, 4, 6, 7, -1, -4, 10 ** 60, -10 ** 60):
            self.check(2, with_effect(2, (place, known, ())))

    def test_the_place_of_a_wait_at_index_one(self):
        book = book_of("cell a = 0/effect e/note a/wait/end/effect f/wait/end")
        good = ((0,), (), ((None, (), (1, (), ())), (None, (), (0, (), ()))))
        self.assertIsNone(part_of(good, book))
        for place, other in ((True, 0), (1, False), (0, 0), (1, 1)):
            state = ((0,), (), ((None, (), (place, (), ())), (None, (), (other, (), ()))))
            self.assertEqual(part_of(state, book), 2)

    def test_places_of_other_lines_with_what_stands_there(self):
        book = book_of("cell a = 0/effect e/let u = a/tell u/if a == u/quiet/end/else/end/set a = 7/"
                       "wait/end")
        for known in ((), (("u", 3),), (("local", 1), ("u", 3)), (("number", 1), ("7", 3))):
            for place in range(8):
                state = ((0,), (), ((None, (), (place, known, ())),))
                self.assertEqual(part_of(state, book), 2)
        self.assertIsNone(part_of(((0,), (), ((None, (), (8, (("u", 3),), ())),)), book))

    def test_an_effect_without_a_wait(self):
        self.check(2, (VALUES, KEPT, (E, (None, (), (0, (), ())))),
                   (VALUES, KEPT, (E, (None, (), E[2]))))

    def test_locals(self):
        good = (("t", 4), ("u", 3))
        for known in (*OTHERS, None, (), good[:1], good[1:], good[::-1], good + (("v", 1),),
                      (("a", 1),) + good, good + good[1:], list(good), (("t", 4), ["u", 3]),
                      (("t", 4), ("u", 3, 3)), (("t", 4), "u3")):
            self.check(2, with_effect(2, (3, known, ())))
        for other in (*OTHERS, None, ()):
            self.check(2, with_effect(2, (3, (("t", 4), ("u", other)), ())))

    def test_told(self):
        for out in (*OTHERS, None, 0, (1, None), (True,)):
            self.check(2, with_effect(2, (3, (("t", 4), ("u", 3)), out)))

    def test_the_first_wrong_part_is_told(self):
        self.check(0, ((), (), ()), (None, None, None))
        self.check(1, (VALUES, (), ()), (VALUES, None, None))
        self.check(-1, ((), ()))

    def test_none_is_no_state_where_one_must_stand(self):
        for asked in (lambda: canonical(BOOK, None), lambda: events(BOOK, None),
                      lambda: ways(BOOK, None, ("call", "h", (1,), ()))):
            with self.assertRaises(BadState) as caught:
                asked()
            self.assertEqual(caught.exception.part, -1)
        self.assertIs(self.verdict.covers(None), False)
        self.assertEqual(len(Play(BOOK, state=None)), 1)


if __name__ == "__main__":
    unittest.main()
