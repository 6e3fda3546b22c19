"""The body of an answer, an effect or a handler, while its lines come in one by one.

Its lines become steps, one for each line, with the same index:

    ("let", local, x)  ("set", cell, x)  ("note", x)  ("give", x)  ("tell", x)
    ("wait", locals)  ("if", sign, x, y, at)  ("else", at)  ("quiet", at)  ("batch", at)
    ("end",)

x and y are ("number", n), ("local", name), ("read", source) or ("peek", source), where
a source is here a cell or any answer; what is read in a quiet block is a "peek", too.
The locals are the names of those in force there, ascending; at is the index of the line
that ends the block.
"""

# By the first words of the lines with which bodies begin.
STANDS_IN = {
    "let": ("kept", "each", "effect", "handler"),
    "note": ("kept", "each", "effect"),
    "give": ("kept", "each"),
    "set": ("effect", "handler"),
    "tell": ("effect",),
    "wait": ("effect",),
    "if": ("kept", "each", "effect", "handler"),
    "else": ("kept", "each", "effect", "handler"),
    "end": ("kept", "each", "effect", "handler"),
    "quiet": ("kept", "each", "effect"),
    "batch": ("handler",),
}


class OpenBody:
    """The lines of one body up to now: its steps, its locals in force, its open blocks."""

    def __init__(self, kind, sources, parameters):
        self.kind = kind
        # Shared with the draft of the book, which declares nothing while a body is open.
        self.sources = sources
        self.known = {name: True for name in parameters}
        self.steps = []
        self.blocks = []
        self.deepest = 0
        self.is_closed = False

    def take(self, said):
        """Whether the line can stand here; if so, it belongs to the body from now on."""
        word = said[0]
        if self.kind not in STANDS_IN.get(word, ()):
            return False
        if word == "end":
            return self._end()
        if word == "else":
            return self._else()
        step = self._in_place(said)
        if step is None:
            return False
        self.steps.append(step)
        if word == "let":
            self._put_in_force(step[1])
        if word in ("if", "quiet", "batch"):
            self._open_block(word)
        return True

    def _in_place(self, said):
        match said:
            case ("let", local, given):
                value = self._expression(given)
                if value is not None and local not in self.sources:
                    return ("let", local, value)
                return None
            case ("set", cell, given):
                value = self._expression(given)
                if value is not None and self.sources.get(cell) == "cell":
                    return ("set", cell, value)
                return None
            case ("give" | "tell", given):
                value = self._expression(given)
                return None if value is None else (said[0], value)
            case ("if", sign, one, other):
                left = self._expression(one)
                right = self._expression(other)
                return None if left is None or right is None else ("if", sign, left, right)
            case ("note", source):
                return ("note", self._reading(source)) if source in self.sources else None
            case ("wait",):
                return ("wait", tuple(sorted(self.known)))
        return said

    def _expression(self, given):
        kind, thing = given
        if kind == "number":
            return given
        if kind == "word" and thing in self.known:
            return ("local", thing)
        if thing not in self.sources:
            return None
        return self._reading(thing) if kind == "word" else ("peek", thing)

    def _reading(self, source):
        """A read without a peek: noted unless a quiet block is open."""
        is_quiet = any([word == "quiet" for word, _, _ in self.blocks])
        return ("peek" if is_quiet else "read", source)

    def _put_in_force(self, local):
        if local not in self.known:
            self.known[local] = True
            if self.blocks:
                self.blocks[-1][2].append(local)

    def _open_block(self, word):
        """Opens the block of the line that was taken last."""
        self.blocks.append((word, len(self.steps) - 1, []))
        self.deepest = max(self.deepest, len(self.blocks))

    def _close_block(self):
        """Closes the innermost block at the line that is about to be taken."""
        _, head, own = self.blocks.pop()
        for local in own:
            del self.known[local]
        self.steps[head] = (*self.steps[head], len(self.steps))

    def _else(self):
        if not self.blocks or self.blocks[-1][0] != "if":
            return False
        self._close_block()
        self.steps.append(("else",))
        self._open_block("else")
        return True

    def _end(self):
        if self.blocks:
            self._close_block()
            self.steps.append(("end",))
            return True
        if self.kind in ("kept", "each") and not self._gives_at_last():
            return False
        self.is_closed = True
        return True

    def _gives_at_last(self):
        return bool(self.steps) and self.steps[-1][0] == "give"
