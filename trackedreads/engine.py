"""The engine: a book between two events, and what an event does to it."""

from trackedreads.errors import BadArguments, NoName, NotWaiting
from trackedreads.sources import Run, Sources


def beginning(book):
    """The state ahead of the start, which is a state of the book, too."""
    values = tuple([number for _, number in book.cells])
    kept = tuple([None for _ in book.answers])
    effects = tuple([(None, (), None) for _ in book.effects])
    return values, kept, effects


class Engine:
    """A book in a state, and what happened in the last event."""

    def __init__(self, book, held):
        values, kept, effects = held
        self.book = book
        self.sources = Sources(book, values, kept)
        # By the names of the effects: last reports, notes of the last runs, and where they wait.
        self.last = {}
        self.notes = {}
        self.waits = {}
        for name, (report, notes, wait) in zip(book.effects, effects):
            self.last[name] = report
            self.notes[name] = notes
            self.waits[name] = wait
        # Of the last event: its picks and those taken, the reports in order, the effects that
        # told their last report once more, and the effects and cells of an endless settling.
        self.picks = ()
        self.picked = []
        self.log = []
        self.repeats = {}
        self.ring = None

    def cell_values(self):
        """The values of the cells."""
        return tuple(self.sources.cells.values())

    def snapshot(self):
        """The state (21)."""
        kept = tuple([self.sources.stored.get(name) for name, _ in self.book.answers])
        effects = [(self.last[name], self.notes[name], self.waits[name])
                   for name in self.book.effects]
        return self.cell_values(), kept, tuple(effects)

    def check(self, event):
        """Raises the error that tells why a call or resume cannot happen here."""
        name = event[1]
        if event[0] == "call":
            parameters = dict(self.book.handlers)
            if not isinstance(name, str) or name not in parameters:
                raise NoName(name)
            if len(event[2]) != len(parameters[name]):
                raise BadArguments(len(event[2]))
        elif name not in self.book.effects:
            raise NoName(name)
        elif self.waits[name] is None:
            raise NotWaiting(name)

    def do(self, event):
        """Lets an event happen that can happen here (19)."""
        self.picks = event[-1]
        self.picked = []
        self.log = []
        self.repeats = {}
        if event[0] == "call":
            self._call(event[1], event[2])
            return
        if event[0] == "resume":
            self._resume(event[1])
        else:
            for name in self.book.effects:
                self._run(name)
        self._settle()

    def _call(self, name, given):
        parameters = dict(self.book.handlers)[name]
        run = Run(self.book.steps_of(name), 0, dict(zip(parameters, given)), None)
        open_batches = []
        while run.at < len(run.steps) and self.ring is None:
            at = run.at
            step = run.steps[at]
            self.sources.step(run)
            if step[0] == "batch":
                open_batches.append(step[1])
            elif open_batches:
                if at == open_batches[-1]:
                    open_batches.pop()
                    if not open_batches:
                        self._settle()
            elif step[0] == "set":
                self._settle()

    def _run(self, name):
        """Runs the effect from its beginning; tells it, and the cells that it changed."""
        self.sources.changed = {}
        run = Run(self.book.steps_of(name), 0, {}, {})
        self._go_on(name, run)
        self.notes[name] = tuple(run.notes.items())
        return name, self.sources.changed

    def _resume(self, name):
        place, known, out = self.waits[name]
        run = Run(self.book.steps_of(name), place + 1, dict(known), None)
        run.out = list(out)
        self._go_on(name, run)

    def _go_on(self, name, run):
        """Runs up to the next wait or the end."""
        steps = run.steps
        while run.at < len(steps) and steps[run.at][0] != "wait":
            self.sources.step(run)
        out = tuple(run.out)
        if run.at < len(steps):
            known = tuple([(local, run.known[local]) for local in steps[run.at][1]])
            self.waits[name] = (run.at, known, out)
            return
        self.waits[name] = None
        if out == self.last[name]:
            self.repeats[name] = True
        self.last[name] = out
        self.log.append((name, out))

    def _settle(self):
        seen = {}
        runs = []
        due = self._due()
        while due:
            standing = self._standing()
            if standing in seen:
                self._close_ring(runs[seen[standing]:])
                return
            seen[standing] = len(runs)
            runs.append(self._run(self._pick_of(due)))
            due = self._due()

    def _due(self):
        return [name for name in self.book.effects
                if not self.sources.are_in_order(self.notes[name])]

    def _pick_of(self, due):
        used = len(self.picked)
        pick = self.picks[used] if used < len(self.picks) else 0
        at = pick % len(due)
        self.picked.append((at, len(due)))
        return due[at]

    def _standing(self):
        """What must come again for a settling to be endless: the state but for the reports."""
        values, kept, effects = self.snapshot()
        return values, kept, tuple([(notes, wait) for _, notes, wait in effects])

    def _close_ring(self, runs):
        names = tuple([name for name, _ in runs])
        cells = [cell for cell, _ in self.book.cells
                 if any([cell in changed for _, changed in runs])]
        self.ring = (names, tuple(cells))
