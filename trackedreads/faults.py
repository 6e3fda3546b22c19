"""What can be wrong with an event, and what can be asked of a book."""

from trackedreads.errors import BadAsk
from trackedreads.truth import true_report

ASKS = ("ends", "whole", "lean", "fresh")


def check_asks(asks):
    """Raises BadAsk with the first entry that is not one of the four."""
    for ask in asks:
        if ask not in ASKS:
            raise BadAsk(ask)


def faults_of(engine):
    """The faults (23) of the event that happened last."""
    if engine.ring is not None:
        return [("ends", None)]
    names = engine.book.effects
    values = engine.cell_values()
    truth = {name: true_report(engine.book, name, values) for name in names}
    broken = {name: True for name, report in engine.log if report != truth[name]}
    faults = [("whole", name) for name in names if name in broken]
    faults.extend([("lean", name) for name in names if name in engine.repeats])
    if all([engine.waits[name] is None for name in names]):
        faults.extend([("fresh", name) for name in names if engine.last[name] != truth[name]])
    return faults
