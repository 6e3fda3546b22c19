"""Point 35: joint states and their canonical forms, and joint in the interface of comparing.py."""

import random
import unittest

from tests.chance import event_by
from tests.samples import book_of
from tests.twins import PlainPair, twins_by
from trackedreads.books import Book
from trackedreads.comparing import joint
from trackedreads.errors import BadState, Unlike
from trackedreads.states import canonical

ONE = book_of("cell a = 3/effect e/let x = a/wait/tell x/end/handler h x/set a = x/end")
OTHER = book_of("cell a = 1/cell b = 5/kept p/give a/end/effect e/tell p/end/handler h y/set b = y/end")


def one_state(a, report=None, noted=None, local=None, told=()):
    wait = None if local is None else (1, (("x", local),), told)
    return ((a,), (), ((report, () if noted is None else (("a", noted),), wait),))


def other_state(a, b, kept=None, report=None):
    entry = None if kept is None else (kept, (("a", kept),))
    return ((a, b), (entry,), ((report, (), None),))


def renamed(held, names):
    """The value with other integers for those in it."""
    if isinstance(held, tuple):
        return tuple(renamed(item, names) for item in held)
    is_place = isinstance(held, str) or held is None
    return held if is_place else names.setdefault(held, held)


class CanonicalForms(unittest.TestCase):
    def test_numbers_of_both_books_stay(self):
        pair = (one_state(5, (1, 3)), other_state(3, 1, 5, (5,)))
        self.assertEqual(joint(ONE, OTHER, pair), pair)
        # 1 and 5 stand in the other book alone, 3 in the first one.
        self.assertEqual(joint(ONE, OTHER, (one_state(8, (1,)), other_state(8, 3, None, (9,)))),
                         (one_state(0, (1,)), other_state(0, 3, None, (2,))))

    def test_names_go_on_through_the_pair(self):
        pair = (one_state(70, (80, 70), 90, 60, (50,)), other_state(50, 40, 90, (30, 60)))
        new = (one_state(0, (2, 0), 4, 6, (7,)), other_state(7, 8, 4, (9, 6)))
        self.assertEqual(joint(ONE, OTHER, pair), new)

    def test_the_order_of_the_books_matters(self):
        pair = (one_state(70), other_state(80, 70))
        self.assertEqual(joint(ONE, OTHER, pair), (one_state(0), other_state(2, 0)))
        self.assertEqual(joint(OTHER, ONE, pair[::-1]), (other_state(0, 2), one_state(2)))

    def test_places_and_names_are_no_values(self):
        # The wait stands at 1; the value 1 is a number, 2 is none.
        self.assertEqual(joint(ONE, OTHER, (one_state(9, None, None, 9), other_state(2, 9))),
                         (one_state(0, None, None, 0), other_state(2, 0)))

    def test_its_own_result(self):
        for pair in ((one_state(70, (80,), 3), other_state(-5, 10 ** 59, 80, ())),
                     (one_state(0), other_state(2, 4))):
            new = joint(ONE, OTHER, pair)
            self.assertEqual(joint(ONE, OTHER, new), new)

    def test_pairs_that_differ_in_the_names_of_values_alone(self):
        for seed in range(80):
            draw = random.Random(seed)
            one, other = twins_by(draw)
            pair = PlainPair(one, other)
            for _ in range(4):
                event = None if pair.is_over() else event_by(draw, one, pair.waiting())
                if event is None:
                    break
                pair.do(event[:-1] + ((),))
            if pair.is_over():
                continue
            numbers = {*one.numbers, *other.numbers}
            held = pair.state()
            new = joint(one, other, held)
            # Places of waits are no values: books with none are enough here.
            if "wait" in one.lines or "wait" in other.lines:
                continue
            with self.subTest(seed=seed):
                fresh = [number for number in range(-40, 40) if number not in numbers]
                draw.shuffle(fresh)
                names = {number: number for number in numbers}
                for number in range(-1, 30):
                    if number not in numbers:
                        names[number] = fresh.pop()
                self.assertEqual(joint(one, other, renamed(held, names)), new)
                if held[0][0] and len(set(held[0][0]) - numbers) > 1:
                    same = {value: 1000 for value in held[0][0] if value not in numbers}
                    self.assertNotEqual(joint(one, other, renamed(held, same)), new)

    def test_as_canonical_of_one_book_beside_a_still_one(self):
        still = book_of("cell z = 3/effect e/end/handler h x/end")
        none = ((3,), (), ((None, (), None),))
        for held in (one_state(9, (8, 7), 6, 5, (9,)), one_state(3), one_state(0, ())):
            self.assertEqual(joint(ONE, still, (held, none)), (canonical(ONE, held), none))


class WrongPairs(unittest.TestCase):
    good = (one_state(5), other_state(5, 6))

    def part(self, thing):
        try:
            joint(ONE, OTHER, thing)
        except BadState as why:
            return why.part
        return None

    def test_no_pairs(self):
        for thing in (None, True, 0, "ab", [], (), list(self.good), self.good[:1],
                      self.good + self.good[:1], ((),), one_state(5), [self.good]):
            self.assertEqual(self.part(thing), -1, thing)
        self.assertIsNone(self.part(self.good))

    def test_no_states(self):
        one, other = self.good
        for wrong in (None, True, (), [], list(one), (one,), one[:2], one + ((),), "abc",
                      ((True,), (), one[2]), ((5, 5), (), one[2]), one_state("5"), one_state(5, [5]),
                      one_state(5, (None,))):
            self.assertEqual(self.part((wrong, other)), 0, wrong)
            self.assertEqual(self.part((wrong, None)), 0, wrong)
        for wrong in (None, one, list(other), ((5,), (None,), other[2]), ((5, 6), (), other[2]),
                      ((5, 6), (None,), ()), other_state(5, None), other_state(5, 6, True)):
            self.assertEqual(self.part((one, wrong)), 1, wrong)
        self.assertEqual(self.part((other, one)), 0)

    def test_unlike_books_come_first(self):
        for thing in (None, self.good, ()):
            for other, what in (("cell a = 0/effect e/end", "handlers"),
                                ("cell a = 0/effect f/end/handler h x/end", "effects")):
                with self.assertRaises(Unlike) as caught:
                    joint(ONE, book_of(other), thing)
                self.assertEqual(caught.exception.what, what)

    def test_arguments_by_name(self):
        self.assertEqual(joint(one=ONE, other=OTHER, pair=self.good), joint(ONE, OTHER, self.good))
        self.assertIsInstance(ONE, Book)


if __name__ == "__main__":
    unittest.main()
