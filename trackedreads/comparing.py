"""Comparing: whether two books do the same in all rows of events, decided for all rows."""

from trackedreads.errors import BadState, TooMany, Unlike
from trackedreads.forms import is_start
from trackedreads.pairs import Pair

MOST_FOUND = 500
MOST_LOOKED_AT = 1000


def alike(one, other, *, by="reports"):
    """Whether the books tell the same reports, or have the same last ones at rest."""
    _check_comparable(one, other)
    return Likeness(_certificate(Pair(one, other, by)))


def is_likeness(one, other, thing, *, by="reports"):
    """Whether any value shows that the books are, or are not, alike."""
    _check_comparable(one, other)
    books = Pair(one, other, by)
    if not isinstance(thing, tuple) or len(thing) != 2:
        return False
    kind, shown = thing
    if not isinstance(shown, tuple):
        return False
    if kind == "alike":
        return _is_table(books, shown) and _is_closed(books, shown)
    return kind == "parted" and _is_parting(books, shown)


def joint(one, other, pair):
    """The canonical form (35) of a joint state."""
    _check_comparable(one, other)
    books = Pair(one, other, "reports")
    part = books.wrong_entry(pair)
    if part is not None:
        raise BadState(part)
    return books.canonical_of(pair)


class Likeness:
    """Whether two books are alike, and what shows it."""

    def __init__(self, certificate):
        self.certificate = certificate
        self._is_alike = certificate[0] == "alike"
        self._table = certificate[1] if self._is_alike else ()
        self._row = () if self._is_alike else certificate[1]

    def __bool__(self):
        return bool(self._is_alike)

    def __len__(self):
        return len(self._row)

    def __iter__(self):
        return iter(self._table)


def _check_comparable(one, other):
    handlers = [[(name, len(parameters)) for name, parameters in book.handlers]
                for book in (one, other)]
    if handlers[0] != handlers[1]:
        raise Unlike("handlers")
    if one.effects != other.effects:
        raise Unlike("effects")


def _certificate(books):
    """The certificate (35), by a search that goes by the number of events of rows (29)."""
    table = {}
    many_events = 0
    steps = [(books.opening(), (), ("start", ()))]
    while steps:
        new = []
        for held, row, event in steps:
            is_parted, behind = books.played(held, event)
            if is_parted:
                return ("parted", row + (event,))
            canonical = None if behind is None else books.canonical_of(behind)
            if canonical is not None and canonical not in table:
                table[canonical] = True
                many_events += books.count_of_events(behind)
                new.append((behind, row + (event,)))
        if many_events > MOST_FOUND:
            raise TooMany("events")
        steps = [(held, row, event) for held, row in new for event in books.events_in(held)]
    return ("alike", tuple(table))


def _is_table(books, table):
    """Whether the entries are canonical joint states without duplicates."""
    for held in table:
        if books.wrong_entry(held) is not None or books.canonical_of(held) != held:
            return False
    return len({held for held in table}) == len(table)


def _is_closed(books, table):
    """Whether no event of the start or the table parts the books or leads out of the table."""
    if sum([books.count_of_events(held) for held in table]) > MOST_LOOKED_AT:
        raise TooMany("events")
    steps = [(books.opening(), ("start", ()))]
    steps.extend([(held, event) for held in table for event in books.events_in(held)])
    # Whether a joint state stands for one of the table. Many events lead to the same few.
    known = {held: True for held in table}
    for held, event in steps:
        is_parted, behind = books.played(held, event)
        if is_parted:
            return False
        if behind is not None and behind not in known:
            # A joint state of the table is its own canonical form, so that none is missed.
            known[behind] = known.get(books.canonical_of(behind), False)
        if behind is not None and not known[behind]:
            return False
    return True


def _is_parting(books, row):
    """Whether the row can be played up to an event that parts the books, its last one."""
    held = books.opening()
    for at, event in enumerate(row):
        if not (books.can_happen(held, event) if at > 0 else is_start(event)):
            return False
        if event[-1] != ():
            return False
        is_parted, held = books.played(held, event)
        if is_parted or held is None:
            return is_parted and at + 1 == len(row)
    return False
