"""Looks certificates over, whoever made them."""

from trackedreads.branches import all_ways, count_of_events, events_in, happened
from trackedreads.engine import beginning
from trackedreads.errors import BadRow, TooMany
from trackedreads.faults import check_asks, faults_of
from trackedreads.forms import wrong_part
from trackedreads.naming import canonical_of
from trackedreads.play import replay_faults

MOST_EVENTS = 1000


def is_certificate(book, thing, *, asks=("ends", "fresh"), order="book"):
    """Whether any value shows that the book keeps, or does not keep, what is asked."""
    check_asks(asks)
    if not isinstance(thing, tuple):
        return False
    if len(thing) == 2 and thing[0] == "kept":
        return _is_table(book, thing[1]) and _is_closed(book, thing[1], asks, order)
    if len(thing) == 4 and thing[0] == "broken":
        _, row, ask, effect = thing
        return ask in asks and _has_fault(book, row, (ask, effect), order)
    return False


def _has_fault(book, row, fault, order):
    try:
        faults = replay_faults(book, row)
    except BadRow:
        return False
    if order == "book" and not all([event[-1] == () for event in row]):
        return False
    return fault in faults


def _is_table(book, table):
    """Whether it is a tuple of canonical states without duplicates."""
    if not isinstance(table, tuple):
        return False
    for held in table:
        if wrong_part(book, held) is not None or canonical_of(book, held) != held:
            return False
    return len({held for held in table}) == len(table)


def _is_closed(book, table, asks, order):
    """Whether no event of the start or the table has a fault asked or leads out of the table."""
    if sum([count_of_events(book, held) for held in table]) > MOST_EVENTS:
        raise TooMany("events")
    steps = [(beginning(book), ("start", ()))]
    steps.extend([(held, event) for held in table for event in events_in(book, held)])
    look = Look(book, table, asks, order)
    is_closed = True
    for held, event in steps:
        if is_closed:
            is_closed = look.stays(held, event)
        elif order == "any":
            # Too many ways are told of, whatever else is wrong.
            all_ways(book, held, event)
        else:
            return False
    return is_closed


class Look:
    """A look at the events of a table."""

    def __init__(self, book, table, asks, order):
        self.book = book
        self.asks = asks
        self.order = order
        # Whether a state stands for one of the table. Many events lead to the same few states.
        self.known = {held: True for held in table}

    def stays(self, held, event):
        """Whether the event has no fault asked and leads to the table, in each of its ways."""
        if self.order == "any":
            engines = all_ways(self.book, held, event)
        else:
            engines = [happened(self.book, held, event)]
        return all([self._is_good(engine) for engine in engines])

    def _is_good(self, engine):
        # Without asks no fault counts, and the true reports need not be worked out.
        if self.asks and any([ask in self.asks for ask, _ in faults_of(engine)]):
            return False
        return engine.ring is not None or self._is_known(engine.snapshot())

    def _is_known(self, behind):
        is_known = self.known.get(behind)
        if is_known is None:
            # A state of the table is its own canonical state, so that none is missed.
            is_known = self.known.get(canonical_of(self.book, behind), False)
            self.known[behind] = is_known
        return is_known
