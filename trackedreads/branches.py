"""What can happen next: the events of a state, and the ways in which one of them can go."""

from trackedreads.engine import Engine
from trackedreads.errors import TooMany
from trackedreads.naming import known_values

MOST_WAYS = 8


def count_of_events(book, held):
    """How many events (27) a state of the book has."""
    return count_with(book.handlers, known_values(book, held), waiting_in(book, held))


def events_in(book, held):
    """The events (27) of a state of the book, however many there are."""
    return events_with(book.handlers, known_values(book, held), waiting_in(book, held))


def count_with(handlers, known, waiting):
    """How many events there are with these handlers, known values and effects that wait."""
    firsts = len(known) + 1
    counts = (1, firsts, firsts * firsts + 1)
    return sum([counts[len(parameters)] for _, parameters in handlers]) + len(waiting)


def events_with(handlers, known, waiting):
    """The events that there are with these handlers, known values and effects that wait."""
    found = [("call", name, values, ())
             for name, parameters in handlers
             for values in _values_for(len(parameters), known)]
    return found + [("resume", name, ()) for name in waiting]


def waiting_in(book, held):
    """The names of the effects that wait in a state of the book, in order."""
    return [name for name, entry in zip(book.effects, held[2]) if entry[2] is not None]


def happened(book, held, event):
    """The engine behind an event that can happen in this state."""
    engine = Engine(book, held)
    engine.do(event)
    return engine


def all_ways(book, held, event):
    """The engine behind the event in each of its ways, ascending; the event's picks are free."""
    engines = []
    picks = ()
    while picks is not None:
        if len(engines) == MOST_WAYS:
            raise TooMany("ways")
        engine = happened(book, held, event[:-1] + (picks,))
        engines.append(engine)
        picks = _next_picks(engine.picked)
    return engines


def way_of(engine):
    """The picks that the event took, one for each run of its settlings."""
    return tuple([at for at, _ in engine.picked])


def _next_picks(picked):
    """The beginning of the way behind this one; None if it was the last."""
    for place in reversed(range(len(picked))):
        at, many = picked[place]
        if at + 1 < many:
            return tuple([taken for taken, _ in picked[:place]]) + (at + 1,)
    return None


def _values_for(many, known):
    """The values with which a handler with so many parameters is called."""
    if many == 0:
        return [()]
    one, other = _least_two_not_in(known)
    firsts = known + [one]
    if many == 1:
        return [(first,) for first in firsts]
    return [(first, second) for first in firsts for second in firsts] + [(one, other)]


def _least_two_not_in(known):
    taken = set(known)
    least = []
    at = 0
    while len(least) < 2:
        if at not in taken:
            least.append(at)
        at += 1
    return least
