"""Points 36 to 42 at large: scripts on desks against a second reading of the document."""

import collections
import random
import unittest

from tests.scripts import ANSWERS, CELLS, OWN, Draft, Enough, Fault, OnPlain, OnReal


class AgainstThePlainReading(unittest.TestCase):
    counts = collections.Counter()

    def outcome(self, script, line):
        """What a line outside of all works does."""
        try:
            script.block([line], [])
        except (Fault, *OWN) as why:
            return why.__class__, vars(why)
        return None

    def one_script(self, seed):
        draw = random.Random(seed)
        draft = Draft(draw)
        scripts = [kind(draft.works, 1500) for kind in (OnPlain, OnReal)]
        lines = [("make", name, draw.randint(0, 2)) for name in CELLS]
        lines += [("make", name, 0) for name in draw.sample(ANSWERS, draw.randint(2, 4))]
        lines += draft.block("outside", 0) + [draft.line("outside", 0) for _ in range(10)]
        for line in lines:
            try:
                outcomes = [self.outcome(script, line) for script in scripts]
            except Enough:
                self.counts["enough"] += 1
                return
            plain, real = scripts
            self.assertEqual(real.seen, plain.seen)
            self.assertEqual(outcomes[1], outcomes[0])
            self.assertEqual(real.standing(), plain.standing())
            self.counts[outcomes[0] and outcomes[0][0]] += 1
        self.counts.update(entry[1] for entry in scripts[0].seen if entry[0] == "caught")

    def test_many_scripts(self):
        for seed in range(1500):
            with self.subTest(seed=seed):
                self.one_script(seed)
        for kind in (None, Fault, *OWN):
            self.assertGreater(self.counts[kind], 5, kind)


if __name__ == "__main__":
    unittest.main()
