"""Repairs: steps that change a book, and the fewest with which it keeps what is asked."""

from trackedreads.books import Book
from trackedreads.errors import BadStep, TooMany
from trackedreads.faults import check_asks
from trackedreads.judging import judge

MOST_STEPS = 4


def changed(book, steps):
    """The book with these steps (31) carried out together."""
    _check_steps(book, steps)
    bodies = {name: list(book.body(name)) for name in _owners(book)}
    # Apart from the bodies, so that no peek takes away a note that a step puts there.
    heads = {name: [] for name in bodies}
    kinds = dict(book.answers)
    for step in steps:
        match step:
            case ("note", owner, source):
                heads[owner].append(f"note {source}")
            case ("peek", owner, source):
                bodies[owner] = _peeked(bodies[owner], source)
            case ("batch", owner):
                bodies[owner] = ["batch", *bodies[owner], "end"]
            case ("each" | "kept", owner):
                kinds[owner] = step[0]
    lines = [f"cell {name} = {number}" for name, number in book.cells]
    for name in bodies:
        lines.extend([_first_line(book, kinds, name), *heads[name], *bodies[name], "end"])
    return Book(lines)


def bare(book):
    """The book in which answers and effects note nothing."""
    return changed(book, [step for step in _steps_for(book) if step[0] == "peek"])


def least_repairs(book, steps, *, asks=("ends", "fresh"), order="book"):
    """All choices of as few of the steps as possible with which the book keeps the asks."""
    check_asks(asks)
    _check_steps(book, steps)
    if len(steps) > MOST_STEPS:
        raise TooMany("steps")
    for many in range(len(steps) + 1):
        choices = [tuple([steps[at] for at in places]) for places in _places(many, len(steps))]
        found = [choice for choice in choices
                 if judge(changed(book, choice), asks=asks, order=order)]
        if found:
            return found
    return []


def _check_steps(book, steps):
    allowed = _steps_for(book)
    for at, step in enumerate(steps):
        if step not in allowed or step in steps[:at]:
            raise BadStep(at)


def _steps_for(book):
    """All steps that there are for the book."""
    steps = []
    names = [name for name, _ in book.cells]
    for owner, _ in book.answers:
        steps.extend(_read_steps(owner, names))
        names.append(owner)
    for owner in book.effects:
        steps.extend(_read_steps(owner, names))
    steps.extend([("batch", name) for name, _ in book.handlers])
    steps.extend([(kind, name) for name, _ in book.answers for kind in ("each", "kept")])
    return steps


def _read_steps(owner, names):
    return [(word, owner, name) for name in names for word in ("note", "peek")]


def _owners(book):
    """The names of all that has a body, in order."""
    answers = [name for name, _ in book.answers]
    return answers + list(book.effects) + [name for name, _ in book.handlers]


def _first_line(book, kinds, owner):
    if owner in kinds:
        return f"{kinds[owner]} {owner}"
    if owner in book.effects:
        return f"effect {owner}"
    return " ".join(["handler", owner, *dict(book.handlers)[owner]])


def _peeked(lines, name):
    """The lines of a body without notes of the name, and with a peek wherever it is read."""
    return [_line_peeked(line, name) for line in lines if line != f"note {name}"]


def _line_peeked(line, name):
    parts = line.split(" ")
    # What is set or let stands ahead of the expressions; it is no read.
    first = 3 if parts[0] in ("let", "set") else 1
    new = parts[:first]
    for at in range(first, len(parts)):
        if parts[at] == name and parts[at - 1] != "peek":
            new.append("peek")
        new.append(parts[at])
    return " ".join(new)


def _places(many, total, first=0):
    """All choices of so many places below the total, each ascending, in ascending order."""
    if many == 0:
        return [()]
    return [(at, *behind) for at in range(first, total)
            for behind in _places(many - 1, total, at + 1)]
