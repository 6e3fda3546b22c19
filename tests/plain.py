"""Points 9 to 23 once more, as slowly and plainly as their words, to compare plays with.

Bodies are trees here, runs are generators that stop at waits, and nothing is remembered
that the points do not tell to keep.
"""


class Tree:
    """The lines of a block: (index, words) or (index, words, block, else block)."""

    def __init__(self, lines):
        self.lines = lines
        self.at = 0

    def block(self):
        rows = []
        while self.at < len(self.lines):
            words = self.lines[self.at].split(" ")
            if words[0] in ("else", "end"):
                break
            at = self.at
            self.at += 1
            if words[0] not in ("if", "quiet", "batch"):
                rows.append((at, words))
                continue
            first = self.block()
            other = []
            if self.lines[self.at] == "else":
                self.at += 1
                other = self.block()
            self.at += 1
            rows.append((at, words, first, other))
        return rows


class Given(Exception):
    """The body gave this value."""


class PlainPlay:
    def __init__(self, book, picks=()):
        self.book = book
        self.kinds = dict(book.answers)
        self.trees = {name: Tree(book.body(name)).block()
                      for name in (*self.kinds, *book.effects, *dict(book.handlers))}
        self.cells = dict(book.cells)
        self.kept = {}
        self.report = {name: None for name in book.effects}
        self.notes = {name: () for name in book.effects}
        self.wait = {name: None for name in book.effects}
        self.under_way = {}
        self.log = []
        self.ring = None
        self.begin_event(picks)
        for name in book.effects:
            self.run(name)
        self.settle()

    # Events

    def begin_event(self, picks):
        self.picks = list(picks)
        self.choices = []
        self.told = []
        self.again = []
        self.turned = []

    def call(self, name, values, picks=()):
        self.begin_event(picks)
        scopes = [dict(zip(dict(self.book.handlers)[name], values))]
        run = self.walk(self.trees[name], scopes, None, [])
        depth = 0
        for word, _ in run:
            depth += {"batch": 1, "end": -1, "set": 0}[word]
            if depth == 0 and word != "batch":
                self.settle()
                if self.ring:
                    return

    def resume(self, name, picks=()):
        self.begin_event(picks)
        self.go_on(name)
        self.settle()

    # Runs

    def run(self, name):
        notes = []
        told = []
        self.under_way[name] = (self.walk(self.trees[name], [{}], notes, told), notes, told)
        self.go_on(name)

    def go_on(self, name):
        run, notes, told = self.under_way[name]
        for word, what in run:
            if word == "wait":
                place, scopes = what
                known = {}
                for scope in scopes:
                    known.update(scope)
                self.wait[name] = (place, tuple(sorted(known.items())), tuple(told))
                self.notes[name] = tuple(notes)
                return
        self.wait[name] = None
        self.notes[name] = tuple(notes)
        if self.report[name] == tuple(told):
            self.again.append(name)
        self.report[name] = tuple(told)
        self.told.append((name, tuple(told)))
        self.log.append((name, tuple(told)))

    def walk(self, block, scopes, notes, told, noted=True, passed=None):
        """Carries out a block; stops at waits, and behind sets and around batches."""
        passed = passed if passed is not None else []
        for row in block:
            at, words = row[:2]
            word = words[0]

            def worth(parts):
                return self.worth(parts, scopes, notes, noted and not passed)

            if word == "let":
                value = worth(words[3:])
                for scope in scopes:
                    if words[1] in scope:
                        scope[words[1]] = value
                        break
                else:
                    scopes[-1][words[1]] = value
            elif word == "set":
                value = worth(words[3:])
                before = self.cells[words[1]]
                self.cells[words[1]] = value
                if before != value:
                    self.turned.append(words[1])
                yield "set", None
            elif word == "tell":
                told.append(worth(words[1:]))
            elif word == "give":
                raise Given(worth(words[1:]))
            elif word == "note":
                worth(words[1:])
            elif word == "wait":
                yield "wait", (at, scopes)
                passed.append(True)
            else:
                yield from self.walk_block(row, worth, scopes, notes, told, noted, passed)

    def walk_block(self, row, worth, scopes, notes, told, noted, passed):
        _, words, first, other = row
        chosen = first
        if words[0] == "if":
            sign = "==" if "==" in words else "!="
            cut = words.index(sign)
            left = worth(words[1:cut])
            right = worth(words[cut + 1:])
            chosen = first if (left == right) is (sign == "==") else other
        if words[0] == "batch":
            yield "batch", None
        inner = scopes + [{}]
        is_noted = noted and words[0] != "quiet"
        yield from self.walk(chosen, inner, notes, told, is_noted, passed)
        if words[0] == "batch":
            yield "end", None

    # Reading

    def worth(self, parts, scopes, notes, noted):
        if parts[0] == "peek":
            return self.read(parts[1], notes, False)
        if parts[0].isdigit():
            return int(parts[0])
        for scope in scopes:
            if parts[0] in scope:
                return scope[parts[0]]
        return self.read(parts[0], notes, noted)

    def read(self, name, notes, noted):
        if self.kinds.get(name) == "each":
            return self.work(name, notes, noted)
        value = self.present(name)
        if notes is not None and noted and name not in [source for source, _ in notes]:
            notes.append((name, value))
        return value

    def present(self, source):
        if source in self.cells:
            return self.cells[source]
        if source not in self.kept or not self.in_order(self.kept[source][1]):
            notes = []
            value = self.work(source, notes, True)
            self.kept[source] = (value, tuple(notes))
        return self.kept[source][0]

    def in_order(self, notes):
        for source, value in notes:
            if self.present(source) != value:
                return False
        return True

    def work(self, name, notes, noted):
        try:
            for _ in self.walk(self.trees[name], [{}], notes, [], noted):
                pass
        except Given as why:
            return why.args[0]

    # Settling

    def settle(self):
        rounds = []
        while True:
            due = [name for name in self.book.effects if not self.in_order(self.notes[name])]
            if not due:
                return
            here = (dict(self.cells), dict(self.kept), dict(self.notes), dict(self.wait))
            for at, (there, _, _) in enumerate(rounds):
                if there == here:
                    self.ring = self.ring_of(rounds[at:])
                    return
            at = (self.picks.pop(0) if self.picks else 0) % len(due)
            self.choices.append((at, len(due)))
            self.turned = []
            self.run(due[at])
            rounds.append((here, due[at], self.turned))

    def ring_of(self, rounds):
        turned = [cell for _, _, cells in rounds for cell in cells]
        return (tuple(name for _, name, _ in rounds),
                tuple(cell for cell, _ in self.book.cells if cell in turned))

    # What can be asked

    def state(self):
        return (tuple(self.cells.values()),
                tuple(self.kept.get(name) for name, _ in self.book.answers),
                tuple((self.report[name], self.notes[name], self.wait[name])
                      for name in self.book.effects))

    def faults(self):
        if self.ring:
            return [("ends", None)]
        true = {name: self.true_report(name) for name in self.book.effects}
        at_rest = not any(self.wait.values())
        return ([("whole", name) for name in self.book.effects
                 if any(who == name and report != true[name] for who, report in self.told)]
                + [("lean", name) for name in self.book.effects if name in self.again]
                + [("fresh", name) for name in self.book.effects
                   if at_rest and self.report[name] != true[name]])

    def true_report(self, name):
        other = PlainTruth(self.book, self.trees, self.cells)
        told = []
        for _ in other.walk(self.trees[name], [{}], None, told):
            pass
        return tuple(told)


class PlainTruth(PlainPlay):
    """Nothing is kept: all answers are run at each read."""

    def __init__(self, book, trees, cells):
        self.kinds = {name: "each" for name, _ in book.answers}
        self.trees = trees
        self.cells = dict(cells)
        self.turned = []
