"""States of a book: which are alike, what can happen in them, and in which ways."""

from trackedreads.branches import all_ways, count_of_events, events_in, way_of
from trackedreads.engine import Engine, beginning
from trackedreads.errors import BadState, TooMany
from trackedreads.forms import wrong_part
from trackedreads.naming import canonical_of

MOST_EVENTS = 2000


def canonical(book, state):
    """The canonical state (26)."""
    _check_state(book, state)
    return canonical_of(book, state)


def events(book, state):
    """The events (27) of the state, with picks ()."""
    _check_state(book, state)
    if count_of_events(book, state) > MOST_EVENTS:
        raise TooMany("events")
    return events_in(book, state)


def ways(book, state, event):
    """The ways (27) of the event in the state, ascending."""
    _check_state(book, state)
    Engine(book, state).check(event)
    return [way_of(engine) for engine in all_ways(book, state, event)]


def start_ways(book):
    """The ways (27) of the start, ascending."""
    engines = all_ways(book, beginning(book), ("start", ()))
    return [way_of(engine) for engine in engines]


def _check_state(book, state):
    part = wrong_part(book, state)
    if part is not None:
        raise BadState(part)
