"""The desk: cells, kept answers and effects over functions that the caller passes."""

from trackedreads.errors import NoName
from trackedreads.floor import Floor


class Desk:
    """The library itself: runs effects again when something changes that they read."""

    MOST_RUNS = 100

    def __init__(self):
        self._floor = Floor(self.MOST_RUNS)

    def cell(self, name, value):
        """Makes a cell with this value."""
        self._floor.check_place()
        self._floor.take_name(name)
        made = Cell(self._floor, name, value)
        self._floor.cells[name] = made
        self._floor.sources[name] = made
        return made

    def kept(self, name, work):
        """Makes a kept answer; its work returns its value."""
        self._floor.check_place()
        self._floor.take_name(name)
        made = Kept(self._floor, name, work)
        self._floor.sources[name] = made
        return made

    def effect(self, name, work):
        """Makes an effect, whose work returns its report, and runs it."""
        self._floor.check_place()
        self._floor.take_name(name)
        made = Effect(self._floor, name, work)
        made.run()
        # Only now: an effect that was made in its first run comes before it.
        self._floor.effects.append(made)
        self._floor.settle()
        return made

    def settle(self):
        """Runs due effects until none is due, unless a batch or a run is under way."""
        self._floor.check_place()
        self._floor.settle()

    def together(self, work, *given):
        """Calls the work and settles once, behind it; returns what the work returned."""
        self._floor.check_place()
        result = self._floor.in_batch(work, given)
        self._floor.settle()
        return result

    def quietly(self, work, *given):
        """Calls the work without noting what it reads; returns what the work returned."""
        return self._floor.in_quiet(work, given)

    def told(self, name):
        """The reports in the log of the effect of this name, in order."""
        for effect, report in list(self._floor.log):
            if effect == name:
                yield report

    def __getitem__(self, at):
        if not isinstance(at, str) or at not in self._floor.cells:
            raise NoName(at)
        return self._floor.cells[at].value

    def __setitem__(self, at, worth):
        self._floor.check_place()
        if not isinstance(at, str) or at not in self._floor.cells:
            raise NoName(at)
        self._floor.cells[at].put(worth)

    def __contains__(self, thing):
        return isinstance(thing, str) and thing in self._floor.names

    def __len__(self):
        return len(self._floor.log)

    def __iter__(self):
        return iter(self._floor.log)


class Cell:
    """A cell of a desk."""

    def __init__(self, floor, name, value):
        self.name = name
        self._floor = floor
        self._now = value

    def __call__(self):
        self._floor.note(self.name, self._now)
        return self._now

    @property
    def value(self):
        """The value; reading it is not noted."""
        return self._now

    @value.setter
    def value(self, value):
        self.put(value)

    def put(self, value):
        """Gives the cell the value, and settles."""
        self._floor.check_place()
        if value != self._now:
            self._now = value
            self._floor.turned[self.name] = True
        self._floor.settle()

    def __iadd__(self, other):
        self.put(self._now + other)
        return self

    def current(self):
        """What the cell is worth to those who noted it."""
        return self._now


class Kept:
    """A kept answer of a desk."""

    def __init__(self, floor, name, work):
        self.name = name
        self.runs = 0
        self._floor = floor
        self._work = work
        # The kept value and its notes; both mean nothing while nothing is kept.
        self._is_kept = False
        self._result = None
        self._notes = {}

    def __call__(self):
        result = self.current()
        self._floor.note(self.name, result)
        return result

    @property
    def held(self):
        """The kept value, in order or not; None if there is none."""
        return self._result

    def current(self):
        """The kept value, which is worked out anew if it is not in order."""
        self._floor.check_not_busy(self.name)
        if not self._is_kept or not self._floor.are_in_order(self._notes):
            self._work_out()
        return self._result

    def _work_out(self):
        self._is_kept = False
        self._result = None
        run = self._floor.begun(self.name, True)
        self._result = self._floor.carry_out(run, self._work)
        self._is_kept = True
        self._notes = run.notes
        self.runs += 1


class Effect:
    """An effect of a desk."""

    def __init__(self, floor, name, work):
        self.name = name
        self.report = None
        self.runs = 0
        self.notes = {}
        self._floor = floor
        self._work = work

    def __call__(self):
        self._floor.check_place()
        self._floor.check_not_busy(self.name)
        report = self.run()
        self._floor.settle()
        return report

    def run(self):
        """Runs the work, and tells the report that it returns."""
        run = self._floor.begun(self.name, False)
        # Also if the work raises: what was noted until then are the notes.
        self.notes = run.notes
        report = self._floor.carry_out(run, self._work)
        self.report = report
        self.runs += 1
        self._floor.log.append((self.name, report))
        return report
