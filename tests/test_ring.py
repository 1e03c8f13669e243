"""Point 5 and the interface's part on the ring."""

import unittest

from shellround.errors import BadRing, NoIsland
from shellround.ring import ahead_of, onward, rounds_in

FIFTY = 10 ** 49 + 7
SIXTY = 10 ** 60 - 1
BAD_COUNTS = [2, 1, 0, -1, -3, -20, 21, FIFTY, -FIFTY, SIXTY, -SIXTY]
GOOD_COUNTS = list(range(3, 21))


def bad_islands(islands):
    return [-1, -islands, islands, islands + 1, FIFTY, -FIFTY, SIXTY, -SIXTY]


def walked(islands, island, steps):
    """The island that is reached one step at a time, by the ring's neighbours alone."""
    for _ in range(abs(steps)):
        if steps > 0:
            island = 0 if island == islands - 1 else island + 1
        else:
            island = islands - 1 if island == 0 else island - 1
    return island


class RingTest(unittest.TestCase):
    def assert_refused(self, error, ask, *handed):
        with self.subTest(ask=ask.__name__, handed=handed):
            with self.assertRaises(error) as caught:
                ask(*handed)
            self.assertIs(type(caught.exception), error)

    def assert_number(self, told, number):
        self.assertIs(type(told), int)
        self.assertEqual(told, number)


class CountTest(RingTest):
    def test_a_ring_has_three_to_twenty_islands(self):
        for islands in BAD_COUNTS:
            self.assert_refused(BadRing, onward, islands, 0, 1)
            self.assert_refused(BadRing, ahead_of, islands, 0, 0)
            self.assert_refused(BadRing, rounds_in, islands, 5)
            self.assert_refused(BadRing, rounds_in, islands, 0)

    def test_each_count_between_is_a_ring(self):
        for islands in GOOD_COUNTS:
            with self.subTest(islands):
                self.assert_number(onward(islands, 0, 1), 1)
                self.assert_number(ahead_of(islands, 0, islands - 1), islands - 1)
                self.assert_number(rounds_in(islands, islands), 1)

    def test_words(self):
        with self.assertRaises(BadRing) as caught:
            rounds_in(2, 0)
        self.assertEqual(caught.exception.word, "bad ring")
        with self.assertRaises(NoIsland) as caught:
            onward(3, 3, 0)
        self.assertEqual(caught.exception.word, "no island")


class IslandTest(RingTest):
    def test_a_number_that_is_no_island_is_refused(self):
        for islands in (3, 4, 19, 20):
            for island in bad_islands(islands):
                self.assert_refused(NoIsland, onward, islands, island, 0)
                self.assert_refused(NoIsland, onward, islands, island, 1)
                self.assert_refused(NoIsland, onward, islands, island, -1)
                self.assert_refused(NoIsland, ahead_of, islands, island, 0)
                self.assert_refused(NoIsland, ahead_of, islands, 0, island)
                self.assert_refused(NoIsland, ahead_of, islands, islands - 1, island)
                self.assert_refused(NoIsland, ahead_of, islands, island, island)

    def test_bad_ring_is_told_ahead_of_no_island(self):
        for islands in BAD_COUNTS:
            for island in (-1, 20, 21, FIFTY, -FIFTY):
                self.assert_refused(BadRing, onward, islands, island, 1)
                self.assert_refused(BadRing, ahead_of, islands, island, 0)
                self.assert_refused(BadRing, ahead_of, islands, 0, island)
                self.assert_refused(BadRing, ahead_of, islands, island, island)


class OnwardTest(RingTest):
    def test_no_steps_lead_nowhere_else(self):
        for islands in GOOD_COUNTS:
            for island in range(islands):
                self.assert_number(onward(islands, island, 0), island)

    def test_one_step_ahead(self):
        self.assert_number(onward(5, 0, 1), 1)
        self.assert_number(onward(5, 3, 1), 4)
        for islands in GOOD_COUNTS:
            self.assert_number(onward(islands, islands - 1, 1), 0)

    def test_one_step_back(self):
        self.assert_number(onward(5, 4, -1), 3)
        self.assert_number(onward(5, 1, -1), 0)
        for islands in GOOD_COUNTS:
            self.assert_number(onward(islands, 0, -1), islands - 1)

    def test_round_and_round_like_step_by_step(self):
        for islands in (3, 7, 20):
            for island in range(islands):
                for steps in range(-3 * islands - 1, 3 * islands + 2):
                    self.assert_number(onward(islands, island, steps), walked(islands, island, steps))

    def test_whole_rounds_lead_home(self):
        for islands in GOOD_COUNTS:
            for rounds in (1, -1, 1000, -1000, FIFTY, -FIFTY):
                self.assert_number(onward(islands, islands - 1, rounds * islands), islands - 1)
                self.assert_number(onward(islands, islands - 1, rounds * islands + 2), 1)
                self.assert_number(onward(islands, 0, rounds * islands - 2), islands - 2)

    def test_steps_of_fifty_and_sixty_figures(self):
        # Known by sight: 10 islands look at the last figure alone, 3 islands at the sum of the figures.
        self.assert_number(onward(10, 3, FIFTY), 0)
        self.assert_number(onward(10, 3, -FIFTY), 6)
        self.assert_number(onward(3, 0, 10 ** 49), 1)
        self.assert_number(onward(3, 0, -(10 ** 49)), 2)
        self.assert_number(onward(3, 2, SIXTY), 2)
        self.assert_number(onward(10, 2, SIXTY), 1)
        self.assert_number(onward(10, 2, -SIXTY), 3)


class AheadTest(RingTest):
    def test_ordinary_ones(self):
        self.assert_number(ahead_of(5, 1, 3), 2)
        self.assert_number(ahead_of(5, 3, 1), 3)
        self.assert_number(ahead_of(5, 4, 0), 1)
        self.assert_number(ahead_of(5, 0, 4), 4)
        self.assert_number(ahead_of(20, 19, 18), 19)

    def test_an_island_is_not_ahead_of_itself(self):
        for islands in GOOD_COUNTS:
            for island in range(islands):
                self.assert_number(ahead_of(islands, island, island), 0)

    def test_onward_by_so_many_leads_there(self):
        for islands in GOOD_COUNTS:
            for island in range(islands):
                for other in range(islands):
                    steps = ahead_of(islands, island, other)
                    self.assertIn(steps, range(islands))
                    self.assert_number(onward(islands, island, steps), other)
                    self.assertEqual(walked(islands, island, steps), other)


class RoundsTest(RingTest):
    def test_edges_of_a_round(self):
        for islands in GOOD_COUNTS:
            self.assert_number(rounds_in(islands, 0), 0)
            self.assert_number(rounds_in(islands, 1), 0)
            self.assert_number(rounds_in(islands, islands - 1), 0)
            self.assert_number(rounds_in(islands, islands), 1)
            self.assert_number(rounds_in(islands, islands + 1), 1)
            self.assert_number(rounds_in(islands, 2 * islands - 1), 1)
            self.assert_number(rounds_in(islands, 2 * islands), 2)

    def test_fifty_and_sixty_figures(self):
        self.assert_number(rounds_in(10, 10 ** 49), 10 ** 48)
        self.assert_number(rounds_in(10, FIFTY), 10 ** 48)
        self.assert_number(rounds_in(3, SIXTY), int("3" * 60))
        for islands in GOOD_COUNTS:
            self.assert_number(rounds_in(islands, FIFTY * islands), FIFTY)
            self.assert_number(rounds_in(islands, FIFTY * islands - 1), FIFTY - 1)


if __name__ == "__main__":
    unittest.main()
