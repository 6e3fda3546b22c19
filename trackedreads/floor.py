"""The floor of a desk: what stands on it, what is under way there, and what is due."""

from trackedreads.errors import Busy, Misplaced, Taken, TooLong


class Run:
    """One execution of a work: what it noted, and how many quiet calls are open in it."""

    def __init__(self, name, is_of_answer, outer):
        self.name = name
        self.is_of_answer = is_of_answer
        # The run around it, None if there is none.
        self.outer = outer
        # The values by the names of their sources, in the order of the first reads.
        self.notes = {}
        self.quiet = 0


class Floor:
    """What the things on a desk share."""

    def __init__(self, most_runs):
        self.most_runs = most_runs
        self.names = {}
        self.cells = {}
        # The cells and the kept answers, which are what can be noted.
        self.sources = {}
        # Those whose first run is over, in the order in which it ended.
        self.effects = []
        self.log = []
        # The innermost run under way.
        self.inmost = None
        self.batches = 0
        # The cells that got another value since the last settling began.
        self.turned = {}

    def take_name(self, name):
        """Lets the name be in use from now on."""
        if name in self.names:
            raise Taken(name)
        self.names[name] = True

    def check_place(self):
        """Raises Misplaced where nothing may be done but reading."""
        if self.inmost is not None and self.inmost.is_of_answer:
            raise Misplaced(self.inmost.name)

    def check_not_busy(self, name):
        """Raises Busy if a run of what has this name is under way."""
        run = self.inmost
        while run is not None:
            if run.name == name:
                raise Busy(name)
            run = run.outer

    def begun(self, name, is_of_answer):
        """A run that is about to begin."""
        return Run(name, is_of_answer, self.inmost)

    def carry_out(self, run, work):
        """Calls the work as this run; the run is over behind it, also if it raises."""
        self.inmost = run
        try:
            return work()
        finally:
            self.inmost = run.outer

    def in_batch(self, work, given):
        """Calls the work in a batch, which is over behind it, also if it raises."""
        before = self.batches
        self.batches = before + 1
        try:
            return work(*given)
        finally:
            self.batches = before

    def in_quiet(self, work, given):
        """Calls the work; the run under way notes nothing meanwhile."""
        run = self.inmost
        if run is None:
            return work(*given)
        before = run.quiet
        run.quiet = before + 1
        try:
            return work(*given)
        finally:
            run.quiet = before

    def note(self, name, worth):
        """Notes a read of a source for the innermost run, unless it is quiet."""
        run = self.inmost
        if run is not None and run.quiet == 0:
            run.notes.setdefault(name, worth)

    def are_in_order(self, notes):
        """Whether all sources have the noted values; the check ends at the first that differs."""
        for name, noted in notes.items():
            if self.sources[name].current() != noted:
                return False
        return True

    def settle(self):
        """Runs due effects until none is due; does nothing while anything is under way."""
        if self.inmost is not None or self.batches > 0:
            return
        self.turned = {}
        many = 0
        due = self._due()
        while due:
            if many == self.most_runs:
                raise TooLong(tuple([name for name in self.cells if name in self.turned]))
            many += 1
            due[0].run()
            due = self._due()

    def _due(self):
        return [effect for effect in self.effects if not self.are_in_order(effect.notes)]
