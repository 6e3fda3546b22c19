"""Points 36 to 42 once more, as plainly as their words, to compare desks with.

All that is under way stands in one list; who leaves a part of it by an error cuts the list
back to where it was. Things are known by their names alone.
"""

from trackedreads.errors import Busy, Misplaced, NoName, Taken, TooLong


class PlainDesk:
    def __init__(self):
        self.cells = {}
        self.works = {}
        self.kept = {}
        self.made = []
        self.names = []
        self.log = []
        self.notes = {}
        self.report = {}
        self.runs = {}
        # Entries ("run", name, notes), ("quiet",) and ("batch",), the innermost one last.
        self.way = []
        self.turned = []

    # What is under way

    def run_under_way(self):
        """The innermost run, and whether a quiet call was begun in it."""
        quiet = False
        for entry in reversed(self.way):
            if entry[0] == "run":
                return entry, quiet
            quiet = quiet or entry[0] == "quiet"
        return None, False

    def within(self, entry, work, given=()):
        many = len(self.way)
        self.way.append(entry)
        try:
            return work(*given)
        finally:
            del self.way[many:]

    def check_place(self):
        run, _ = self.run_under_way()
        if run is not None and run[1] in self.kept:
            raise Misplaced(run[1])

    def check_busy(self, name):
        if any(entry[:2] == ("run", name) for entry in self.way):
            raise Busy(name)

    # Reading

    def read(self, name):
        value = self.present(name)
        run, quiet = self.run_under_way()
        if run is not None and not quiet and name not in [source for source, _ in run[2]]:
            run[2].append((name, value))
        return value

    def present(self, name):
        if name in self.cells:
            return self.cells[name]
        self.check_busy(name)
        if self.kept[name] is None or not self.in_order(self.kept[name][1]):
            self.kept[name] = None
            notes = []
            value = self.within(("run", name, notes), self.works[name])
            self.kept[name] = (value, notes)
            self.runs[name] += 1
        return self.kept[name][0]

    def in_order(self, notes):
        return all(self.present(name) == value for name, value in list(notes))

    def held(self, name):
        return self.kept[name] and self.kept[name][0]

    # Changing

    def put(self, name, value):
        self.check_place()
        if name not in self.cells:
            raise NoName(name)
        if self.cells[name] != value:
            self.turned.append(name)
        self.cells[name] = value
        self.settle_if_free()

    def settle(self):
        self.check_place()
        self.settle_if_free()

    def settle_if_free(self):
        if any(entry[0] in ("run", "batch") for entry in self.way):
            return
        self.turned = []
        for at in range(101):
            due = [name for name in self.made if not self.in_order(self.notes[name])]
            if not due:
                return
            if at == 100:
                raise TooLong(tuple(name for name in self.cells if name in self.turned))
            self.run(due[0])

    def run(self, name):
        notes = []
        try:
            report = self.within(("run", name, notes), self.works[name])
        finally:
            self.notes[name] = notes
        self.report[name] = report
        self.runs[name] = self.runs.get(name, 0) + 1
        self.log.append((name, report))
        return report

    def call(self, name):
        self.check_place()
        self.check_busy(name)
        report = self.run(name)
        self.settle_if_free()
        return report

    def take(self, name):
        self.check_place()
        if name in self.names:
            raise Taken(name)
        self.names.append(name)

    def make_cell(self, name, value):
        self.take(name)
        self.cells[name] = value

    def make_kept(self, name, work):
        self.take(name)
        self.works[name] = work
        self.kept[name] = None
        self.runs[name] = 0

    def make_effect(self, name, work):
        self.take(name)
        self.works[name] = work
        self.run(name)
        self.made.append(name)
        self.settle_if_free()

    def together(self, work, *given):
        self.check_place()
        result = self.within(("batch",), work, given)
        self.settle_if_free()
        return result

    def quietly(self, work, *given):
        return self.within(("quiet",), work, given)
