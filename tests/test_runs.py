"""Points 10 to 16: long runs of deeds, held against the plain house of plain.py at each step."""

import random
import unittest

import plain
from houses import look
from runs import Story, act_on_both, acts_of_a_run
from shellround.house import House


class RunsTest(unittest.TestCase):
    def run_through(self, seed, islands, steps):
        chance = random.Random(seed)
        house, story, met = House(islands), Story(islands), set()
        for deed in acts_of_a_run(chance, story, steps):
            how, _ = act_on_both(self, house, story, deed)
            met.add(deed[0] if how == "told" else how.__name__)
            self.assertEqual(look(house), plain.look(story.now()))
        while story.deeds():
            act_on_both(self, house, story, ("undo",))
            self.assertEqual(look(house), plain.look(story.now()))
        act_on_both(self, house, story, ("undo",))
        return met

    def test_runs(self):
        met = set()
        for seed in range(24):
            with self.subTest(seed):
                met |= self.run_through(seed, (3, 3, 4, 5)[seed % 4], 300)
        # The runs are worth nothing unless they come by every deed and every refusal.
        self.assertEqual(met, {*plain.DEEDS, "undo", "redo"} | set(
            "BadName Taken NoIsland NoPerson NotNeighbours Twice NotPartners Owing BadKind BadRank NoThing WrongWay "
            "NoFleet BadWay Away NotAway Promised BadSeason NothingLeft".split()
        ))


if __name__ == "__main__":
    unittest.main()
