"""Forms of what callers pass as any value: which are states of a book, which are events."""

from trackedreads.values import are_integers, is_integer


def wrong_part(book, thing):
    """The first part that is not as in a state of the book (25).

    -1 if the thing is no tuple of three, None if it is a state.
    """
    if not _is_tuple_of(3, thing):
        return -1
    values, kept, effects = thing
    if not are_integers(values) or len(values) != len(book.cells):
        return 0
    if not _are_kept(book, kept):
        return 1
    if not _are_effects(book, effects):
        return 2
    return None


def is_start(thing):
    """Whether any value has the form of a start."""
    return _is_tuple_of(2, thing) and thing[0] == "start" and are_integers(thing[1])


def is_later_event(thing):
    """Whether any value has the form of a call or a resume."""
    if _is_tuple_of(4, thing) and thing[0] == "call":
        return isinstance(thing[1], str) and are_integers(thing[2]) and are_integers(thing[3])
    if _is_tuple_of(3, thing) and thing[0] == "resume":
        return isinstance(thing[1], str) and are_integers(thing[2])
    return False


def _is_tuple_of(many, thing):
    return isinstance(thing, tuple) and len(thing) == many


def _are_kept(book, kept):
    if not _is_tuple_of(len(book.answers), kept):
        return False
    sources = [cell for cell, _ in book.cells]
    for (name, kind), entry in zip(book.answers, kept):
        if entry is not None and not (kind == "kept" and _is_kept_value(entry, sources)):
            return False
        if kind == "kept":
            sources.append(name)
    return True


def _is_kept_value(entry, sources):
    return _is_tuple_of(2, entry) and is_integer(entry[0]) and _are_notes(entry[1], sources)


def _are_effects(book, effects):
    if not _is_tuple_of(len(book.effects), effects):
        return False
    sources = [cell for cell, _ in book.cells]
    sources.extend([name for name, kind in book.answers if kind == "kept"])
    for name, entry in zip(book.effects, effects):
        if not _is_tuple_of(3, entry):
            return False
        report, notes, wait = entry
        if report is not None and not are_integers(report):
            return False
        if not _are_notes(notes, sources):
            return False
        if wait is not None and not _is_wait(book.steps_of(name), wait):
            return False
    return True


def _are_notes(notes, sources):
    if not _are_pairs(notes) or not all([name in sources for name, _ in notes]):
        return False
    return len({name for name, _ in notes}) == len(notes)


def _is_wait(steps, wait):
    if not _is_tuple_of(3, wait):
        return False
    place, known, out = wait
    if not is_integer(place) or not 0 <= place < len(steps) or steps[place][0] != "wait":
        return False
    if not _are_pairs(known) or not are_integers(out):
        return False
    return tuple([local for local, _ in known]) == steps[place][1]


def _are_pairs(thing):
    """Whether any value is a tuple of pairs of a string and an integer."""
    if not isinstance(thing, tuple) or not all([_is_tuple_of(2, pair) for pair in thing]):
        return False
    return all([isinstance(name, str) and is_integer(worth) for name, worth in thing])
