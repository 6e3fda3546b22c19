"""Plays: books that run, event by event."""

from trackedreads.engine import Engine, beginning
from trackedreads.errors import BadArguments, BadRow, BadState, NoName, NotWaiting, Over, Ring
from trackedreads.faults import faults_of
from trackedreads.forms import is_later_event, is_start, wrong_part


class Play:
    """A book behind the events that happened in it."""

    def __init__(self, book, *, picks=(), state=None):
        self._book = book
        self._events = []
        self._log = []
        self._faults = []
        if state is None:
            self._engine = Engine(book, beginning(book))
            self._let_happen(("start", tuple(picks)))
        else:
            part = wrong_part(book, state)
            if part is not None:
                raise BadState(part)
            self._engine = Engine(book, state)

    def call(self, name, *values, picks=()):
        """Calls a handler: the pairs (effect, report) that are told in the event."""
        return self._happen(("call", name, tuple(values), tuple(picks)))

    def resume(self, name, *, picks=()):
        """Lets an effect go on that waits: the pairs that are told in the event."""
        return self._happen(("resume", name, tuple(picks)))

    def do(self, event):
        """Lets an event other than a start happen, as call and resume do."""
        return self._happen(event)

    def state(self):
        """The state (21), from which another play goes on as this one does."""
        self._check_not_over()
        return self._engine.snapshot()

    def reports(self):
        """All pairs (effect, report) told so far, in order."""
        yield from list(self._log)

    @property
    def present(self):
        """The values of the cells."""
        return self._engine.cell_values()

    @property
    def waiting(self):
        """The names of the effects that wait, in order."""
        waits = self._engine.waits
        return tuple([name for name in self._book.effects if waits[name] is not None])

    @property
    def faults(self):
        """The faults (23) of the last event."""
        return list(self._faults)

    @property
    def choices(self):
        """A pair (index, count) for each run in the settlings of the last event."""
        return tuple(self._engine.picked)

    @property
    def is_over(self):
        """Whether an event was endless."""
        return self._engine.ring is not None

    def __getitem__(self, name):
        cells = self._engine.sources.cells
        if not isinstance(name, str) or name not in cells:
            raise NoName(name)
        return cells[name]

    def __iter__(self):
        raise TypeError("a play is not iterated over")

    def __len__(self):
        return len(self._events)

    def _check_not_over(self):
        if self._engine.ring is not None:
            raise Over()

    def _happen(self, event):
        self._check_not_over()
        self._engine.check(event)
        return self._let_happen(event)

    def _let_happen(self, event):
        self._events.append(event)
        self._engine.do(event)
        self._log.extend(self._engine.log)
        self._faults = faults_of(self._engine)
        if self._engine.ring is not None:
            effects, cells = self._engine.ring
            raise Ring(effects, cells)
        return list(self._engine.log)


def replay(book, row):
    """The play in which the events of the row happened."""
    if not isinstance(row, tuple) or not row:
        raise BadRow(-1)
    if not is_start(row[0]):
        raise BadRow(0)
    play = None
    for at, event in enumerate(row):
        try:
            if play is None:
                play = Play(book, picks=event[1])
            elif is_later_event(event):
                play.do(event)
            else:
                raise BadRow(at)
        except (NoName, BadArguments, NotWaiting):
            raise BadRow(at) from None
        except Ring:
            if at + 1 < len(row):
                raise BadRow(at + 1) from None
            raise
    return play


def replay_faults(book, row):
    """The faults of the last event of the row, which may be endless."""
    try:
        play = replay(book, row)
    except Ring:
        return [("ends", None)]
    return play.faults
