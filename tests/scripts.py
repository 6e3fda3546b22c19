"""Works drawn with a seed, and how they are carried out on a desk and on a plain one."""

from tests.plaindesk import PlainDesk
from trackedreads.desk import Desk
from trackedreads.errors import Busy, Misplaced, NoName, Taken, TooLong

CELLS = ("a", "b", "c")
ANSWERS = ("p", "q", "r", "s")
EFFECTS = ("e", "f", "g", "h", "i")
OWN = (Busy, Misplaced, NoName, Taken, TooLong)


class Fault(Exception):
    """What works raise."""


class Enough(BaseException):
    """So many lines were carried out that the script ends."""


class Draft:
    """Draws lines for works, most of them of the kinds that may stand there."""

    def __init__(self, draw):
        self.draw = draw
        self.works = {name: self.block("answer", 0) for name in ANSWERS}
        self.works.update({name: self.block("effect", 0) for name in EFFECTS})

    def block(self, kind, deep):
        many = self.draw.choice((1, 2, 2, 3, 4) if deep == 0 else (0, 1, 2, 2))
        return [self.line(kind, deep) for _ in range(many)]

    def line(self, kind, deep):
        draw = self.draw
        words = ["read"] * 6 + ["value", "held", "quietly", "if", "try", "raise"]
        if kind != "answer" or draw.random() < 0.06:
            words += ["put"] * 3 + ["item", "add", "call", "make", "settle", "together", "together"]
        if kind == "outside":
            words += ["put"] * 6 + ["together"] * 2 + ["make"] * 3
        word = draw.choice(words)
        if word in ("quietly", "if", "try", "together"):
            if deep > 2:
                return ("read", draw.choice(CELLS))
            return (word, self.block(kind, deep + 1), draw.randint(0, 2))
        if word == "raise":
            return ("raise",) if draw.random() < 0.3 else ("read", draw.choice(CELLS))
        if word in ("read", "held"):
            return (word, draw.choice(CELLS + ANSWERS if word == "read" else ANSWERS))
        if word == "call":
            return (word, draw.choice(EFFECTS))
        if word == "make":
            return (word, draw.choice(ANSWERS + EFFECTS + EFFECTS), 0)
        names = CELLS * 4 + ("p", "zz") if word == "item" else CELLS
        return (word, draw.choice(names), draw.randint(0, 2))


class Script:
    """Carries out lines, and writes down all that can be seen meanwhile."""

    def __init__(self, works, many):
        self.works = works
        self.left = many
        self.seen = []
        self.last = 0

    def work(self, name):
        """The work of this name, which returns what it read."""
        def carry_out():
            got = []
            self.block(self.works[name], got)
            return sum(got) % 5 if name in ANSWERS else tuple(got)
        return carry_out

    def block(self, lines, got):
        for line in lines:
            self.left -= 1
            if self.left < 0:
                raise Enough()
            self.line(line, got)

    def line(self, line, got):
        word = line[0]
        if word == "try":
            try:
                self.block(line[1], got)
            except (Fault, *OWN) as why:
                self.seen.append(("caught", why.__class__, vars(why)))
        elif word == "if":
            if self.last % 3 == line[2]:
                self.block(line[1], got)
        elif word == "raise":
            raise Fault()
        elif word in ("quietly", "together"):
            def inner(lines, more):
                self.block(lines, more)
                return more
            assert self.around(word)(inner, line[1], got) is got
        else:
            value = self.done(line)
            self.seen.append((line, value))
            if value is not None and word in ("read", "value"):
                got.append(value)
                self.last = value


class OnPlain(Script):
    """On a plain desk."""

    def __init__(self, works, many):
        super().__init__(works, many)
        self.desk = PlainDesk()

    def around(self, word):
        return self.desk.quietly if word == "quietly" else self.desk.together

    def done(self, line):
        word, *more = line
        desk = self.desk
        if word == "read":
            return desk.read(more[0]) if more[0] in {**desk.cells, **desk.kept} else None
        if word == "value":
            return desk.cells.get(more[0])
        if word == "held":
            return desk.held(more[0]) if more[0] in desk.kept else None
        if word in ("put", "item"):
            return desk.put(more[0], more[1])
        if word == "add":
            return desk.put(more[0], desk.cells[more[0]] + more[1])
        if word == "settle":
            return desk.settle()
        if word == "call":
            return desk.call(more[0]) if more[0] in desk.made else None
        return self.make(*more)

    def make(self, name, value):
        if name in CELLS:
            return self.desk.make_cell(name, value)
        kind = self.desk.make_kept if name in ANSWERS else self.desk.make_effect
        return kind(name, self.work(name))

    def standing(self):
        desk = self.desk
        return (desk.cells, {name: desk.held(name) for name in desk.kept},
                {name: desk.runs[name] for name in desk.kept},
                {name: (desk.report[name], desk.runs[name]) for name in desk.made},
                desk.log, sorted(desk.names))


class OnReal(Script):
    """On the desk of the package."""

    def __init__(self, works, many):
        super().__init__(works, many)
        self.desk = Desk()
        self.cells = {}
        self.kept = {}

    def effects(self):
        # Also those whose maker was left by an error of the settling behind it.
        return {effect.name: effect for effect in self.desk._floor.effects}

    def around(self, word):
        return self.desk.quietly if word == "quietly" else self.desk.together

    def done(self, line):
        word, name, *more = line + ("",)
        if word == "read":
            thing = self.cells.get(name) or self.kept.get(name)
            return thing() if thing is not None else None
        if word == "value":
            return self.cells[name].value
        if word == "held":
            return self.kept[name].held if name in self.kept else None
        if word == "put":
            return self.cells[name].put(more[0])
        if word == "item":
            self.desk[name] = more[0]
            return None
        if word == "add":
            cell = self.cells[name]
            cell += more[0]
            assert cell is self.cells[name]
            return None
        if word == "settle":
            return self.desk.settle()
        if word == "call":
            return self.effects()[name]() if name in self.effects() else None
        return self.make(name, more[0])

    def make(self, name, value):
        if name in CELLS:
            self.cells[name] = self.desk.cell(name, value)
        elif name in ANSWERS:
            self.kept[name] = self.desk.kept(name, self.work(name))
        else:
            self.desk.effect(name, self.work(name))

    def standing(self):
        return ({name: self.desk[name] for name in self.cells},
                {name: kept.held for name, kept in self.kept.items()},
                {name: kept.runs for name, kept in self.kept.items()},
                {name: (effect.report, effect.runs) for name, effect in self.effects().items()},
                list(self.desk), sorted(name for name in CELLS + ANSWERS + EFFECTS if name in self.desk))
