"""What a book's answers and effects are worth if nothing is kept and nothing is missed."""

from trackedreads.errors import NoName


def true_report(book, effect, values):
    """The report of the effect for these values of the cells (13)."""
    if effect not in book.effects:
        raise NoName(effect)
    return tuple(Truth(book, values).outcome(effect))


def true_value(book, answer, values):
    """The value of the answer for these values of the cells (13)."""
    if answer not in [name for name, _ in book.answers]:
        raise NoName(answer)
    return Truth(book, values).worth(answer)


class Truth:
    """The cells with given values, and the answers for these values."""

    def __init__(self, book, values):
        self.book = book
        self.cells = {name: value for (name, _), value in zip(book.cells, values)}
        # Answers change nothing: one that was worked out holds until a cell is set.
        self.worked_out = {}

    def worth(self, source):
        """The value of a cell or answer."""
        if source in self.cells:
            return self.cells[source]
        if source not in self.worked_out:
            self.worked_out[source] = self.outcome(source)[0]
        return self.worked_out[source]

    def outcome(self, name):
        """Runs the body of an answer or effect: what it gave or told, in order."""
        steps = self.book.steps_of(name)
        known = {}
        out = []
        at = 0
        while at < len(steps):
            # Notes do not matter to the truth, and waits are passed at once.
            match steps[at]:
                case ("let", local, given):
                    known[local] = self._value(given, known)
                case ("set", cell, given):
                    self.cells[cell] = self._value(given, known)
                    self.worked_out = {}
                case ("tell", given):
                    out.append(self._value(given, known))
                case ("give", given):
                    return [self._value(given, known)]
                case ("if", sign, left, right, behind):
                    same = self._value(left, known) == self._value(right, known)
                    if same != (sign == "=="):
                        at = behind
                case ("else", behind):
                    at = behind
            at += 1
        return out

    def _value(self, given, known):
        kind, thing = given
        if kind == "number":
            return thing
        if kind == "local":
            return known[thing]
        return self.worth(thing)
