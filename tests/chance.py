"""Books and rows drawn with a seed: the same ones each time."""

from trackedreads.books import Book


class Chance:
    """Draws books with some of everything in them."""

    def __init__(self, draw):
        self.draw = draw
        self.with_waits = draw.random() < 0.5
        self.cells = "abc"[:draw.randint(1, 3)]
        self.sources = list(self.cells)
        self.numbers = draw.sample(range(4), draw.randint(1, 3))

    def book(self):
        lines = [f"cell {name} = {self.draw.choice(self.numbers)}" for name in self.cells]
        for name in ("p", "q", "r")[:self.draw.choice((0, 1, 1, 2, 2, 3))]:
            kind = self.draw.choice(("kept", "kept", "each"))
            body = self.body("answer", []) + ["give " + self.expression([])]
            lines += [f"{kind} {name}", *body, "end"]
            self.sources.append(name)
        for name in ("e", "f", "g")[:self.draw.choice((1, 1, 2, 2, 3))]:
            lines += [f"effect {name}", *self.body("effect", []), "end"]
        for name in ("h", "k", "l")[:self.draw.choice((0, 1, 2, 2, 3))]:
            parameters = ["x", "y"][:self.draw.choice((0, 1, 1, 2))]
            head = " ".join(["handler", name, *parameters])
            lines += [head, *self.body("handler", parameters), "end"]
        return Book(lines) if len(lines) <= Book.MOST_LINES else Chance(self.draw).book()

    def expression(self, known):
        kind = self.draw.random()
        if kind < 0.2:
            return str(self.draw.choice(self.numbers))
        if kind < 0.45 and known:
            return self.draw.choice(known)
        source = self.draw.choice(self.sources)
        return source if kind < 0.85 else "peek " + source

    def body(self, kind, known, depth=0):
        known = list(known)
        lines = []
        for _ in range(self.draw.choice((0, 1, 1, 2, 3)) + (depth == 0)):
            lines += self.line(kind, known, depth)
        return lines

    def line(self, kind, known, depth):
        words = {"answer": ["let", "note", "if", "quiet", "give"],
                 "effect": ["let", "note", "if", "quiet", "set", "set", "tell", "tell", "wait"],
                 "handler": ["let", "set", "set", "set", "if", "batch"]}[kind]
        word = self.draw.choice(words)
        if word == "wait" and not self.with_waits or depth == 3 and word in ("if", "quiet", "batch"):
            word = "let"
        if word == "let":
            text = "let {} = " + self.expression(known)
            local = self.draw.choice(["u", "v", *known])
            if local not in known:
                known.append(local)
            return [text.format(local)]
        if word == "set":
            return [f"set {self.draw.choice(self.cells)} = {self.expression(known)}"]
        if word == "note":
            return ["note " + self.draw.choice(self.sources)]
        if word in ("tell", "give"):
            return [f"{word} {self.expression(known)}"]
        if word == "wait":
            return ["wait"]
        return self.block(kind, word, known, depth)

    def block(self, kind, word, known, depth):
        if word != "if":
            return [word, *self.body(kind, known, depth + 1), "end"]
        sign = self.draw.choice(("==", "!="))
        head = f"if {self.expression(known)} {sign} {self.expression(known)}"
        lines = [head, *self.body(kind, known, depth + 1)]
        if self.draw.random() < 0.5:
            lines += ["else", *self.body(kind, known, depth + 1)]
        return lines + ["end"]


def picks_by(draw):
    return tuple(draw.randint(-3, 5) for _ in range(draw.choice((0, 0, 1, 3, 6))))


def event_by(draw, book, waiting):
    """A call or a resume that can happen; None if there is none."""
    events = [("resume", name) for name in waiting]
    events += [("call", name, tuple(draw.randint(-1, 4) for _ in parameters))
               for name, parameters in book.handlers]
    return draw.choice(events) + (picks_by(draw),) if events else None
