"""Books: reactive programs, written in lines."""

from trackedreads.drafts import drafted
from trackedreads.errors import BadBook, NoName, TooMany
from trackedreads.lines import numbers_in


class Book:
    """A reactive program that is written by the rules and within the bounds."""

    MOST_LINES = 80
    MOST_CELLS = 4
    MOST_ANSWERS = 3
    MOST_EFFECTS = 3
    MOST_HANDLERS = 3
    MOST_DEEP = 8
    MOST_NUMBERS = 4

    def __init__(self, lines):
        if not isinstance(lines, (list, tuple)):
            raise BadBook(-1)
        draft = drafted(lines)
        self.lines = tuple(lines)
        self.cells = tuple(draft.cells)
        self.answers = tuple(draft.answers)
        self.effects = tuple(draft.effects)
        self.handlers = tuple(draft.handlers)
        self.numbers = tuple(sorted({n for line in lines for n in numbers_in(line)}))
        self._names = draft.names
        self._bodies = draft.bodies
        self._check_bounds(draft.deepest)

    @classmethod
    def read(cls, text):
        """The book of the lines between the line feeds of the text."""
        if not isinstance(text, str):
            raise BadBook(-1)
        return cls(text.split("\n"))

    def body(self, name):
        """The lines of the body of an answer, effect or handler."""
        first, steps = self._body(name)
        return self.lines[first:first + len(steps)]

    def steps_of(self, name):
        """The steps of this body, one for each of its lines (see bodies.py)."""
        _, steps = self._body(name)
        return steps

    def __contains__(self, thing):
        return isinstance(thing, str) and thing in self._names

    def __len__(self):
        return len(self.lines)

    def __eq__(self, other):
        return isinstance(other, Book) and self.lines == other.lines

    def __str__(self):
        return "\n".join(self.lines)

    def _body(self, name):
        if not isinstance(name, str) or name not in self._bodies:
            raise NoName(name)
        return self._bodies[name]

    def _check_bounds(self, deepest):
        bounds = (
            ("lines", len(self.lines), self.MOST_LINES),
            ("cells", len(self.cells), self.MOST_CELLS),
            ("answers", len(self.answers), self.MOST_ANSWERS),
            ("effects", len(self.effects), self.MOST_EFFECTS),
            ("handlers", len(self.handlers), self.MOST_HANDLERS),
            ("deep", deepest, self.MOST_DEEP),
            ("numbers", len(self.numbers), self.MOST_NUMBERS),
        )
        for what, many, most in bounds:
            if many > most:
                raise TooMany(what)
