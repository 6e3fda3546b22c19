"""The errors of the package. Their fields are copies of what they are made with."""

from trackedreads.values import copied


class TrackedError(ValueError):
    """Something that was passed cannot be used."""


class BadBook(TrackedError):
    """The lines are not a book: at is the first that cannot stand, or -1."""

    def __init__(self, at):
        self.at = copied(at)


class TooMany(TrackedError):
    """There is more of something than the package takes on: what names it."""

    def __init__(self, what):
        self.what = copied(what)


class NoName(TrackedError):
    """Nothing of the kind that was asked for has this name."""

    def __init__(self, name):
        self.name = copied(name)


class BadArguments(TrackedError):
    """A handler was called with another number of values, count, than it has parameters."""

    def __init__(self, count):
        self.count = copied(count)


class NotWaiting(TrackedError):
    """The effect of this name does not wait."""

    def __init__(self, name):
        self.name = copied(name)


class BadState(TrackedError):
    """It is no state of the book: part is the first part that is wrong, or -1."""

    def __init__(self, part):
        self.part = copied(part)


class BadRow(TrackedError):
    """It is no row of events for the book: at is the first entry that is wrong, or -1."""

    def __init__(self, at):
        self.at = copied(at)


class BadAsk(TrackedError):
    """This ask is not one of the four."""

    def __init__(self, ask):
        self.ask = copied(ask)


class BadStep(TrackedError):
    """They are no steps for the book: at is the first that is wrong."""

    def __init__(self, at):
        self.at = copied(at)


class Unlike(TrackedError):
    """Two books cannot be compared: what names the part in which they differ."""

    def __init__(self, what):
        self.what = copied(what)


class HasWait(TrackedError):
    """The effect of this name has a wait, which a desk does not know."""

    def __init__(self, name):
        self.name = copied(name)


class Taken(TrackedError):
    """The name is in use on the desk."""

    def __init__(self, name):
        self.name = copied(name)


class Ring(RuntimeError):
    """A settling is endless: effects are run again and again, cells change each time."""

    def __init__(self, effects, cells):
        self.effects = copied(effects)
        self.cells = copied(cells)


class Over(RuntimeError):
    """The play is over."""


class TooLong(RuntimeError):
    """A settling on a desk makes too many runs: cells are those that it changed."""

    def __init__(self, cells):
        self.cells = copied(cells)


class Misplaced(RuntimeError):
    """The work of the kept answer of this name does what only others may do."""

    def __init__(self, name):
        self.name = copied(name)


class Busy(RuntimeError):
    """What has this name is asked to run while it is running."""

    def __init__(self, name):
        self.name = copied(name)
