"""Pairs of books: played side by side by the plain reading, and drawn with a seed."""

from tests.chance import Chance
from tests.plain import PlainPlay
from tests.test_steps import offered_by
from trackedreads.books import Book
from trackedreads.errors import BadBook, TooMany
from trackedreads.repairs import changed


class PlainPair:
    """Points 33 and 34 in their words: two plain plays of the same row."""

    def __init__(self, one, other):
        self.plays = [PlainPlay(one), PlainPlay(other)]

    def do(self, event):
        for play in self.plays:
            if event[0] == "call":
                play.call(*event[1:])
            elif play.wait[event[1]] is not None:
                play.resume(*event[1:])
            else:
                play.begin_event(event[-1])

    def is_parted(self, by):
        """Whether the last event parts the books."""
        rings = [play.ring is not None for play in self.plays]
        if any(rings):
            return not all(rings)
        one, other = self.plays
        if by == "reports":
            return one.told != other.told
        if any(play.wait[name] is not None for play in self.plays for name in play.wait):
            return False
        return one.report != other.report

    def is_over(self):
        return any(play.ring is not None for play in self.plays)

    def waiting(self):
        """The effects that wait in at least one of the books, in order."""
        one, other = self.plays
        return [name for name in one.wait
                if one.wait[name] is not None or other.wait[name] is not None]

    def state(self):
        return tuple(play.state() for play in self.plays)


def played(one, other, row):
    """The pair behind the row."""
    pair = PlainPair(one, other)
    for event in row[1:]:
        pair.do(event)
    return pair


def parted_at(one, other, row, by):
    """The index of the first event of the row that parts the books, or None."""
    pair = PlainPair(one, other)
    for at, event in enumerate(row):
        if at:
            pair.do(event)
        if pair.is_parted(by):
            return at
        if pair.is_over():
            return None
    return None


def twins_by(draw):
    """Two comparable books that are close to each other."""
    book = Chance(draw).book()
    if draw.random() < 0.3:
        return book, with_another_line(draw, book)
    for _ in range(5):
        offered = offered_by(book)
        try:
            return book, changed(book, draw.sample(offered, min(len(offered), draw.randint(1, 4))))
        except TooMany:
            continue
    return book, book


def with_another_line(draw, book):
    """The book with one of its expressions changed, where that leaves a book."""
    for _ in range(20):
        lines = list(book.lines)
        at = draw.randrange(len(lines))
        parts = lines[at].split(" ")
        if parts[0] in ("cell", "tell", "give", "set", "let"):
            parts[-1] = draw.choice(("0", "1", "2", "a", "b"))
            lines[at] = " ".join(parts)
            try:
                return Book(lines)
            except (BadBook, TooMany):
                continue
    return book
