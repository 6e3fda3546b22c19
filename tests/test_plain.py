"""Points 9 to 23 at large: plays of many books against a second reading of the document."""

import random
import unittest

from tests.chance import Chance, event_by, picks_by
from tests.plain import PlainPlay
from trackedreads.errors import Ring
from trackedreads.play import Play


class AgainstThePlainReading(unittest.TestCase):
    def agree(self, play, plain):
        self.assertEqual(play.present, tuple(plain.cells.values()))
        self.assertEqual(play.choices, tuple(plain.choices))
        self.assertEqual(play.faults, plain.faults())
        self.assertEqual(list(play.reports()), plain.log)
        self.assertEqual(play.waiting, tuple(
            name for name in plain.book.effects if plain.wait[name] is not None))
        self.assertIs(play.is_over, plain.ring is not None)
        if not play.is_over:
            self.assertEqual(play.state(), plain.state())

    def one_book(self, seed):
        draw = random.Random(seed)
        book = Chance(draw).book()
        picks = picks_by(draw)
        plain = PlainPlay(book, picks)
        try:
            play = Play(book, picks=picks)
        except Ring as why:
            self.assertEqual((why.effects, why.cells), plain.ring)
            return
        self.agree(play, plain)
        for _ in range(8):
            event = event_by(draw, book, play.waiting)
            if event is None or play.is_over:
                return
            self.one_event(play, plain, event)
            self.agree(play, plain)
            if not play.is_over and draw.random() < 0.2:
                play = self.made_anew(book, play, plain)

    def one_event(self, play, plain, event):
        word, name, *rest = event
        {"call": plain.call, "resume": plain.resume}[word](name, *rest)
        try:
            told = play.do(event)
        except Ring as why:
            self.assertEqual((why.effects, why.cells), plain.ring)
        else:
            self.assertIsNone(plain.ring)
            self.assertEqual(told, plain.told)

    def made_anew(self, book, play, plain):
        """A play that goes on from the state; of what happened it knows nothing."""
        other = Play(book, state=play.state())
        self.assertEqual(other.state(), play.state())
        plain.log = []
        return other

    def test_many_books(self):
        for seed in range(800):
            with self.subTest(seed=seed):
                self.one_book(seed)


if __name__ == "__main__":
    unittest.main()
