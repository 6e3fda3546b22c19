"""Two books side by side, which play the same rows in the order "book"."""

from trackedreads.branches import count_with, events_with, happened, waiting_in
from trackedreads.engine import Engine, beginning
from trackedreads.forms import is_later_event, is_start, wrong_part
from trackedreads.naming import Naming


class Pair:
    """Two comparable books, and by what an event parts them; what is held is a joint state."""

    def __init__(self, one, other, by):
        self.books = (one, other)
        self.by = by
        self.numbers = tuple(sorted(set(one.numbers + other.numbers)))

    def opening(self):
        """The joint state ahead of the start."""
        one, other = self.books
        return beginning(one), beginning(other)

    def wrong_entry(self, thing):
        """The first entry that is no state of its book; -1 if the thing is no pair."""
        if not isinstance(thing, tuple) or len(thing) != 2:
            return -1
        for at, book in enumerate(self.books):
            if wrong_part(book, thing[at]) is not None:
                return at
        return None

    def canonical_of(self, held):
        """The canonical form (35) of a joint state."""
        naming = Naming(self.numbers)
        return tuple([naming.state_named(state) for state in held])

    def count_of_events(self, held):
        """How many events a joint state has."""
        return count_with(self.books[0].handlers, self._known(held), self._waiting(held))

    def events_in(self, held):
        """The events (35) of a joint state, however many there are."""
        return events_with(self.books[0].handlers, self._known(held), self._waiting(held))

    def can_happen(self, held, event):
        """Whether any value is an event other than a start that can happen here."""
        if not is_later_event(event):
            return False
        if event[0] == "resume":
            return event[1] in self._waiting(held)
        parameters = dict(self.books[0].handlers)
        return event[1] in parameters and len(event[2]) == len(parameters[event[1]])

    def played(self, held, event):
        """Whether the event parts the books, and the joint state behind it.

        The state is None if the event is endless in one of the books, or in both.
        """
        engines = [self._engine(book, state, event) for book, state in zip(self.books, held)]
        is_endless = [engine.ring is not None for engine in engines]
        if any(is_endless):
            return not all(is_endless), None
        return self._are_parted(engines), tuple([engine.snapshot() for engine in engines])

    def _engine(self, book, state, event):
        # A resume passes by the book in which the effect does not wait (33).
        if event[0] == "resume" and event[1] not in waiting_in(book, state):
            return Engine(book, state)
        return happened(book, state, event)

    def _are_parted(self, engines):
        one, other = engines
        if self.by == "reports":
            return one.log != other.log
        names = self.books[0].effects
        if any([engine.waits[name] is not None for engine in engines for name in names]):
            return False
        return any([one.last[name] != other.last[name] for name in names])

    def _known(self, held):
        naming = Naming(self.numbers)
        for state in held:
            naming.state_named(state)
        return sorted(naming.names)

    def _waiting(self, held):
        one, other = [waiting_in(book, state) for book, state in zip(self.books, held)]
        return [name for name in self.books[0].effects if name in one or name in other]
