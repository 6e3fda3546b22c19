"""A book on a desk: its bodies become works, its handlers put what they set."""

from trackedreads.desk import Desk
from trackedreads.errors import BadArguments, HasWait, NoName


class OnDesk:
    """A book without waits, on a desk of its own."""

    def __init__(self, book):
        for name in book.effects:
            if "wait" in [step[0] for step in book.steps_of(name)]:
                raise HasWait(name)
        self.desk = Desk()
        self._book = book
        # The cells and the kept answers, by their names.
        self._sources = {}
        self._make_all()

    def call(self, name, *values):
        """Calls a handler."""
        parameters = dict(self._book.handlers)
        if not isinstance(name, str) or name not in parameters:
            raise NoName(name)
        if len(values) != len(parameters[name]):
            raise BadArguments(len(values))
        self._outcome(name, dict(zip(parameters[name], values)))

    def _make_all(self):
        def make():
            for name, number in self._book.cells:
                self._sources[name] = self.desk.cell(name, number)
            for name, kind in self._book.answers:
                if kind == "kept":
                    self._make_kept(name)
            for name in self._book.effects:
                self._make_effect(name)
        self.desk.together(make)

    def _make_kept(self, name):
        self._sources[name] = self.desk.kept(name, lambda: self._outcome(name, {})[0])

    def _make_effect(self, name):
        self.desk.effect(name, lambda: tuple(self._outcome(name, {})))

    def _outcome(self, name, known):
        """Carries out the body of this name: what it gave or told, in order."""
        steps = self._book.steps_of(name)
        body = Body(steps, known)
        self._go(body, 0, len(steps))
        return body.out

    def _go(self, body, at, end):
        """Carries out the lines from at up to the end, or up to a give."""
        while at < end and not body.is_done:
            at = self._step(body, at)

    def _step(self, body, at):
        """Carries out a line, and the block that it begins on the desk; gives the next line."""
        step = body.steps[at]
        word = step[0]
        if word == "let":
            body.known[step[1]] = self._worth(step[2], body)
        elif word == "set":
            self._sources[step[1]].put(self._worth(step[2], body))
        elif word == "note":
            self._worth(step[1], body)
        elif word in ("tell", "give"):
            body.out.append(self._worth(step[1], body))
            body.is_done = word == "give"
        elif word == "if":
            left = self._worth(step[2], body)
            right = self._worth(step[3], body)
            if (left == right) != (step[1] == "=="):
                return step[4] + 1
        elif word == "else":
            return step[1] + 1
        elif word == "quiet":
            self.desk.quietly(lambda: self._go(body, at + 1, step[1]))
            return step[1] + 1
        elif word == "batch":
            self.desk.together(lambda: self._go(body, at + 1, step[1]))
            return step[1] + 1
        return at + 1

    def _worth(self, given, body):
        kind, thing = given
        if kind == "number":
            return thing
        if kind == "local":
            return body.known[thing]
        if kind == "peek":
            return self.desk.quietly(lambda: self._reading(thing))
        return self._reading(thing)

    def _reading(self, source):
        if source in self._sources:
            thing = self._sources[source]
            return thing()
        # An answer of the other kind stands on no desk: the work that reads it works it out.
        return self._outcome(source, {})[0]


class Body:
    """One execution of a body on the desk: its locals, and what it gave or told."""

    def __init__(self, steps, known):
        self.steps = steps
        self.known = known
        self.out = []
        self.is_done = False
