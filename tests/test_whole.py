"""Point 3: what the package promises as a whole, held against rows that are played."""

import random
import unittest

from tests.chance import Chance, event_by
from tests.plain import PlainPlay
from tests.test_steps import offered_by
from trackedreads.errors import TooMany
from trackedreads.judging import judge
from trackedreads.repairs import changed, least_repairs
from trackedreads.states import canonical

ASKS = ("ends", "whole", "lean", "fresh")


def faults_behind(book, row):
    """The faults of each event of the row, by the plain reading."""
    play = PlainPlay(book, row[0][1])
    faults = [play.faults()]
    for event in row[1:]:
        {"call": play.call, "resume": play.resume}[event[0]](*event[1:])
        faults.append(play.faults())
    return faults


class Case(unittest.TestCase):
    def broken_by(self, book, certificate, asks, order):
        _, row, ask, effect = certificate
        faults = faults_behind(book, row)
        self.assertIn(ask, asks)
        self.assertIn((ask, effect), faults[-1])
        self.assertFalse([fault for told in faults[:-1] for fault in told if fault[0] in asks])
        if order == "book":
            self.assertTrue(all(event[-1] == () for event in row))

    def kept_in(self, draw, book, asks, order, table=None):
        """Rows drawn with the seed have no fault that is asked, and lead to the table."""
        for _ in range(5):
            play = PlainPlay(book, self.picks(draw, order))
            for _ in range(6):
                self.assertFalse([fault for fault in play.faults() if fault[0] in asks])
                if play.ring:
                    break
                if table is not None:
                    self.assertIn(canonical(book, play.state()), table)
                waiting = [name for name in book.effects if play.wait[name]]
                event = event_by(draw, book, waiting)
                if event is None:
                    break
                event = event[:-1] + (self.picks(draw, order),)
                {"call": play.call, "resume": play.resume}[event[0]](*event[1:])

    def picks(self, draw, order):
        return () if order == "book" else tuple(draw.randint(-2, 4) for _ in range(draw.randint(0, 6)))


class Verdicts(Case):
    def test_many_books(self):
        kinds = []
        for seed in range(200):
            draw = random.Random(seed)
            book = Chance(draw).book()
            asks = draw.sample(ASKS, draw.randint(1, 3))
            order = draw.choice(("book", "any"))
            try:
                verdict = judge(book, asks=asks, order=order)
            except TooMany:
                continue
            kinds.append(bool(verdict))
            with self.subTest(seed=seed):
                if verdict:
                    self.kept_in(draw, book, asks, order, verdict.certificate[1])
                else:
                    self.broken_by(book, verdict.certificate, asks, order)
        self.assertGreater(min(kinds.count(True), kinds.count(False)), 20)


class LeastRepairs(Case):
    def test_many_books(self):
        many = 0
        for seed in range(300):
            draw = random.Random(seed)
            book = Chance(draw).book()
            offered = offered_by(book)
            steps = draw.sample(offered, min(len(offered), 3))
            asks = draw.sample(ASKS, draw.randint(1, 2))
            order = draw.choice(("book", "any"))
            try:
                choices = least_repairs(book, steps, asks=asks, order=order)
            except TooMany:
                continue
            with self.subTest(seed=seed):
                for choice in choices:
                    self.kept_in(draw, changed(book, choice), asks, order)
                    many += len(choice) > 0
                self.smaller_ones_do_not(book, steps, choices, asks, order)
        self.assertGreater(many, 4)

    def smaller_ones_do_not(self, book, steps, choices, asks, order):
        bound = len(choices[0]) if choices else len(steps) + 1
        for at in range(2 ** len(steps)):
            choice = [step for place, step in enumerate(steps) if at >> place & 1]
            if len(choice) < bound or len(choice) == bound and tuple(choice) not in choices:
                other = changed(book, choice)
                certificate = judge(other, asks=asks, order=order).certificate
                self.assertEqual(certificate[0], "broken")
                self.broken_by(other, certificate, asks, order)


if __name__ == "__main__":
    unittest.main()
