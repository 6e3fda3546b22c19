"""Cells and answers as bodies read them: what is noted, what is kept, what is in order."""


class Run:
    """One execution of a body: the line at which it stands, its locals and its notes."""

    def __init__(self, steps, at, known, notes):
        self.steps = steps
        self.at = at
        self.known = known
        # The values by their sources, in the order of the first reads; None if none is noted.
        self.notes = notes
        # What it gave or told up to now.
        self.out = []


class Sources:
    """The cells of a book with their values, and its answers with their kept values."""

    def __init__(self, book, values, kept):
        self.book = book
        self.cells = {name: value for (name, _), value in zip(book.cells, values)}
        self.kinds = dict(book.answers)
        # For each answer with a kept value the pair (value, notes).
        self.stored = {name: entry for (name, _), entry in zip(book.answers, kept)
                       if entry is not None}
        # What reading an answer gave since a cell changed last. Answers change no cell, and one
        # that was read is in order until a cell changes, so reading it again gives the same.
        self.recent = {}
        # The cells that got another value; who wants to know empties it beforehand.
        self.changed = {}

    def put(self, cell, worth):
        """Gives the cell this value."""
        if self.cells[cell] != worth:
            self.cells[cell] = worth
            self.changed[cell] = True
            self.recent = {}

    def step(self, run):
        """Carries out the line at which the run stands, and lets it move on."""
        line = run.steps[run.at]
        word = line[0]
        if word == "let":
            run.known[line[1]] = self._worth(line[2], run)
        elif word == "set":
            self.put(line[1], self._worth(line[2], run))
        elif word in ("tell", "give"):
            run.out.append(self._worth(line[1], run))
        elif word == "note":
            self._worth(line[1], run)
        elif word == "if":
            left = self._worth(line[2], run)
            right = self._worth(line[3], run)
            if (left == right) != (line[1] == "=="):
                run.at = line[4]
        elif word == "else":
            run.at = line[1]
        run.at += 1

    def are_in_order(self, notes):
        """Whether all sources have the noted values; the check ends at the first that differs."""
        for source, noted in notes:
            if self._reading(source)[0] != noted:
                return False
        return True

    def _worth(self, given, run):
        kind, thing = given
        if kind == "number":
            return thing
        if kind == "local":
            return run.known[thing]
        worth, pairs = self._reading(thing)
        if kind == "read" and run.notes is not None:
            for source, noted in pairs:
                run.notes.setdefault(source, noted)
        return worth

    def _reading(self, source):
        """The present value of a cell or answer, and the pairs that a noted read of it notes."""
        if source in self.cells:
            worth = self.cells[source]
            return worth, ((source, worth),)
        if source not in self.recent:
            self.recent[source] = self._answer(source)
        return self.recent[source]

    def _answer(self, name):
        if self.kinds[name] == "each":
            return self._given(name)
        if name not in self.stored or not self.are_in_order(self.stored[name][1]):
            self.stored[name] = self._given(name)
        worth = self.stored[name][0]
        return worth, ((name, worth),)

    def _given(self, name):
        """Runs the body of an answer: its value, and the notes of the run."""
        run = Run(self.book.steps_of(name), 0, {}, {})
        while not run.out:
            self.step(run)
        return run.out[0], tuple(run.notes.items())
