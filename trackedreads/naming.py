"""Other names for the values of a state, by which states are told to be alike."""


class Naming:
    """Lets numbers of a book stand; other values become the least free integers in turn."""

    def __init__(self, numbers):
        self.numbers = numbers
        self.names = {number: number for number in numbers}
        self.least = 0

    def state_named(self, held):
        """The state with names for its values, which are met from left to right."""
        values, kept, effects = held
        new_values = self._all_named(values)
        new_kept = tuple([self._kept_named(entry) for entry in kept])
        return new_values, new_kept, tuple([self._effect_named(entry) for entry in effects])

    def _all_named(self, values):
        names = self.names
        # Ahead of the names: reports can be long, and most of their values were met before.
        for worth in values:
            if worth not in names:
                self._meet(worth)
        return tuple([names[worth] for worth in values])

    def _meet(self, worth):
        """Gives a value that was not met yet the next name."""
        while self.least in self.numbers:
            self.least += 1
        self.names[worth] = self.least
        self.least += 1

    def _pairs_named(self, pairs):
        if not pairs:
            return ()
        found = self._all_named([worth for _, worth in pairs])
        return tuple([(word, name) for (word, _), name in zip(pairs, found)])

    def _kept_named(self, entry):
        if entry is None:
            return None
        name, = self._all_named((entry[0],))
        return name, self._pairs_named(entry[1])

    def _effect_named(self, entry):
        report, notes, wait = entry
        new_report = None if report is None else self._all_named(report)
        new_notes = self._pairs_named(notes)
        if wait is None:
            return new_report, new_notes, None
        place, known, out = wait
        new_known = self._pairs_named(known)
        return new_report, new_notes, (place, new_known, self._all_named(out))


def canonical_of(book, held):
    """The canonical state (26) of a state of the book."""
    return Naming(book.numbers).state_named(held)


def known_values(book, held):
    """The known values (27) of a state of the book."""
    naming = Naming(book.numbers)
    naming.state_named(held)
    return sorted(naming.names)
