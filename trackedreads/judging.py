"""Verdicts: whether some row of events of a book has a fault, decided for all rows."""

from trackedreads.branches import all_ways, count_of_events, events_in, happened, way_of
from trackedreads.engine import beginning
from trackedreads.errors import TooMany
from trackedreads.faults import check_asks, faults_of
from trackedreads.forms import wrong_part
from trackedreads.naming import canonical_of

MOST_EVENTS = 500


def judge(book, *, asks=("ends", "fresh"), order="book"):
    """The verdict on the book: whether it keeps the asks in this order."""
    check_asks(asks)
    return Verdict(book, Search(book, asks, order).result())


class Verdict:
    """Whether a book keeps what is asked, and what shows it."""

    def __init__(self, book, certificate):
        self.certificate = certificate
        self._book = book
        self._is_kept = certificate[0] == "kept"
        self._table = certificate[1] if self._is_kept else ()
        self._row = () if self._is_kept else certificate[1]
        self._found = {held: True for held in self._table}

    def covers(self, state):
        """Whether any value is a state of the book that stands for one of the table."""
        if wrong_part(self._book, state) is not None:
            return False
        return canonical_of(self._book, state) in self._found

    def __bool__(self):
        return bool(self._is_kept)

    def __len__(self):
        return len(self._row)

    def __iter__(self):
        return iter(self._table)


class Search:
    """Goes through the rows of a book by the number of their events.

    Each canonical state stands for all states that become it when values are renamed. The
    search plays on from the first of them that it meets, with the row that led there.
    """

    def __init__(self, book, asks, order):
        self.book = book
        self.asks = asks
        self.order = order
        self.table = {}
        self.many_events = 0

    def result(self):
        """The certificate (28)."""
        steps = [(beginning(self.book), (), ("start", ()))]
        while steps:
            # All of them ahead of the first fault: too many ways come before it (29).
            ends = [end for step in steps for end in self._ends_of(step)]
            for row, faults, _ in ends:
                if faults:
                    ask, effect = faults[0]
                    return ("broken", row, ask, effect)
            new = self._new_of(ends)
            steps = [(held, row, event) for held, row in new
                     for event in events_in(self.book, held)]
        return ("kept", tuple(self.table))

    def _ends_of(self, step):
        """For each way of an event: the row up to it, the faults asked, the state behind it."""
        held, row, event = step
        if self.order == "any":
            engines = all_ways(self.book, held, event)
        else:
            engines = [happened(self.book, held, event)]
        ends = []
        for engine in engines:
            picks = way_of(engine) if self.order == "any" else ()
            faults = [fault for fault in faults_of(engine) if fault[0] in self.asks]
            behind = engine.snapshot() if engine.ring is None else None
            ends.append((row + (event[:-1] + (picks,),), faults, behind))
        return ends

    def _new_of(self, ends):
        """The states with the rows to them that stand for new canonical states."""
        new = []
        for row, _, behind in ends:
            if behind is None:
                continue
            canonical = canonical_of(self.book, behind)
            if canonical not in self.table:
                self.table[canonical] = True
                self.many_events += count_of_events(self.book, behind)
                new.append((behind, row))
        if self.many_events > MOST_EVENTS:
            raise TooMany("events")
        return new
