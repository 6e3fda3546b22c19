"""A book while its lines come in one by one."""

from trackedreads.bodies import OpenBody
from trackedreads.errors import BadBook
from trackedreads.lines import said_by

# What the declaration directly ahead of one with this first word may begin with.
FOLLOWS = {
    "cell": ("", "cell"),
    "kept": ("cell", "kept", "each"),
    "each": ("cell", "kept", "each"),
    "effect": ("cell", "kept", "each", "effect"),
    "handler": ("effect", "handler"),
}


class Draft:
    """The beginning of a book."""

    def __init__(self):
        self.cells = []
        self.answers = []
        self.effects = []
        self.handlers = []
        self.names = {}
        # What can be read: the cells and the answers whose bodies are over, with their kinds.
        self.sources = {}
        # For each name the index of the first line of its body, and the steps.
        self.bodies = {}
        self.deepest = 0
        self.last = ""
        self.owner = ""
        self.first = 0
        self.open_body = None

    def take(self, at, line):
        """Whether the line, of index at, can stand here; if so, it belongs to the draft."""
        said = said_by(line)
        if said is None:
            return False
        if self.open_body is None:
            return self._declare(at, said)
        if not self.open_body.take(said):
            return False
        if self.open_body.is_closed:
            self._close_body()
        return True

    def is_book(self):
        """Whether the lines taken so far are a book, its bounds aside."""
        return self.open_body is None and self.last in ("effect", "handler")

    def _declare(self, at, said):
        kind = said[0]
        if self.last not in FOLLOWS.get(kind, ()) or said[1] in self.names:
            return False
        name = said[1]
        parameters = ()
        if kind == "cell":
            self.cells.append((name, said[2]))
            self.sources[name] = kind
        elif kind == "effect":
            self.effects.append(name)
        elif kind == "handler":
            parameters = said[2]
            if any([word in self.sources for word in parameters]):
                return False
            self.handlers.append((name, parameters))
        else:
            self.answers.append((name, kind))
        self.names[name] = True
        self.last = kind
        if kind != "cell":
            self.owner = name
            self.first = at + 1
            self.open_body = OpenBody(kind, self.sources, parameters)
        return True

    def _close_body(self):
        body = self.open_body
        self.bodies[self.owner] = (self.first, tuple(body.steps))
        self.deepest = max(self.deepest, body.deepest)
        if body.kind in ("kept", "each"):
            self.sources[self.owner] = body.kind
        self.open_body = None


def drafted(lines):
    """The draft of a whole book; raises BadBook with the first line that cannot stand."""
    draft = Draft()
    for at, line in enumerate(lines):
        if not draft.take(at, line):
            raise BadBook(at)
    if not draft.is_book():
        raise BadBook(len(lines))
    return draft
