"""The interface's parts on questions and roads, points 7 to 17: held behind each deed against the slow telling."""

import random
import unittest

import asked
import plain
from houses import asked_twice
from runs import Story, act_on_both, acts_of_a_run
from shellround import asks
from shellround.house import House


def what_there_is(told):
    """Words for what a plain house has that questions could be wrong of."""
    numbers = range(len(told["gifts"]))
    between = [number for pair in told["partners"].values() for number in pair]
    counts = [asked.gifts_to(told, thing, name) for thing in told["things"] for name in told["people"]]
    found = {
        "open": any(asked.open_between(told, *pair) for pair in told["partners"]),
        "answer": any(asked.could_answer(told, number) for number in numbers),
        "parted": any(number not in between for number in numbers),
        "again": any(number not in between and plain.pair_of(told, number) in told["partners"] for number in numbers),
        "far": any(count is not None and count > told["islands"] for count in counts),
        "never": None in counts,
        "round": any(asked.gifts_of_a_whole_round(told, thing) for thing in told["things"]),
    }
    return {word for word, there in found.items() if there} | {promise[4] for promise in told["promises"]}


class AskRunsTest(unittest.TestCase):
    def assert_deeds(self, house, story):
        self.assertEqual(asked_twice(self, lambda: asks.deeds(house)), story.deeds())
        self.assertEqual(asked_twice(self, lambda: asks.undone(house)), story.undone_deeds())

    def run_through(self, seed, islands, steps):
        chance = random.Random(seed)
        house, story, seen = House(islands), Story(islands), set()
        asked.assert_all(self, house, story.now())
        self.assert_deeds(house, story)
        for deed in acts_of_a_run(chance, story, steps):
            act_on_both(self, house, story, deed)
            asked.assert_all(self, house, story.now())
            # Asked behind all other questions: none of them changed the deeds.
            self.assert_deeds(house, story)
            seen |= what_there_is(story.now())
        return seen

    def test_runs(self):
        seen = set()
        for seed in range(6):
            with self.subTest(seed):
                seen |= self.run_through(seed, (3, 4, 5)[seed % 3], 200)
        # The runs are worth nothing unless they come to houses in which there is something to tell.
        self.assertEqual(seen, set("standing kept broken open answer parted again far never round".split()))


if __name__ == "__main__":
    unittest.main()
