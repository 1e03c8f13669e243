"""Points 11, 13 and 14: a house's gifts and promises."""

import unittest

from houses import FIFTY, SIXTY, HouseTest, do_all, look, ring_house
from shellround.errors import BadSeason, NoFleet, NoPerson, NoThing, NotPartners, Promised, WrongWay


def trading_house(islands=4):
    """A ring house in whose middle a1 has a necklace and an arm ring, and to whom the fleets of 0 and 2 came."""
    house = ring_house(islands)
    do_all(
        house, ("make", "shell", "necklace", 5, "a1"), ("make", "band", "armring", 7, "a1"),
        ("sail", 0, "forward"), ("sail", 2, "backward"),
    )
    return house


def thing(house, name):
    """A tuple (kind, rank now, holder, line)."""
    return [row[1:] for row in look(house)["things"] if row[0] == name][0]


class GiveTest(HouseTest):
    def test_a_necklace_goes_ahead(self):
        house = trading_house()
        house.season()
        self.assert_number(house.give("shell", "a2"), 0)
        self.assertEqual(look(house)["gifts"], [(0, "shell", "a1", "a2", 1, 5)])
        self.assertEqual(thing(house, "shell"), ("necklace", 5, "a2", [(0, "a1"), (1, "a2")]))
        self.assertEqual(look(house)["partners"][("a1", "a2")], ([0], []))
        self.assertEqual(look(house)["partners"][("a0", "a1")], ([], []))

    def test_an_arm_ring_goes_back(self):
        house = trading_house()
        self.assert_number(house.give("band", "a0"), 0)
        self.assertEqual(look(house)["gifts"], [(0, "band", "a1", "a0", 0, 7)])
        self.assertEqual(thing(house, "band"), ("armring", 7, "a0", [(0, "a1"), (0, "a0")]))
        self.assertEqual(look(house)["partners"][("a0", "a1")], ([0], []))

    def test_over_the_end_of_the_ring(self):
        for islands in (3, 20):
            house = ring_house(islands)
            last = f"a{islands - 1}"
            do_all(house, ("make", "shell", "necklace", 5, last), ("make", "band", "armring", 6, "a0"))
            do_all(house, ("sail", 0, "backward"), ("sail", islands - 1, "forward"))
            self.assert_number(house.give("shell", "a0"), 0)
            self.assert_number(house.give("band", last), 1)
            self.assertEqual(look(house)["partners"][(last, "a0")], ([0, 1], [0, 1]))

    def test_numbers_over_the_whole_house(self):
        house = trading_house()
        self.assert_number(house.give("shell", "a2"), 0)
        self.assert_number(house.give("band", "a0"), 1)
        do_all(house, ("home", 2), ("make", "more", "armring", 4, "a2"), ("sail", 1, "forward"))
        self.assert_number(house.give("more", "a1"), 2)
        self.assertEqual(look(house)["partners"][("a1", "a2")], ([0, 2], []))
        self.assertEqual([row[0] for row in look(house)["gifts"]], [0, 1, 2])

    def test_a_gift_is_answered_by_one_no_lesser(self):
        for rank, settled in ((4, []), (5, [0, 1]), (6, [0, 1])):
            house = trading_house()
            do_all(house, ("make", "back", "armring", rank, "a2"), ("sail", 1, "forward"))
            do_all(house, ("give", "shell", "a2"), ("give", "back", "a1"))
            self.assertEqual(look(house)["partners"][("a1", "a2")], ([0, 1], settled))

    def test_given_on_at_once(self):
        house = trading_house()
        do_all(house, ("sail", 3, "backward"), ("give", "shell", "a2"), ("give", "shell", "a3"))
        self.assertEqual(look(house)["gifts"], [(0, "shell", "a1", "a2", 0, 5), (1, "shell", "a2", "a3", 0, 5)])
        self.assert_refused(NotPartners, "not partners", house, "give", "shell", "a1")


class GiveRefusedTest(HouseTest):
    def test_no_thing(self):
        house = trading_house()
        for name in ("none", "", "Shell", "a1", "shell "):
            self.assert_refused(NoThing, "no thing", house, "give", name, "a2")
            # NoThing and NoPerson are due.
            self.assert_refused(NoThing, "no thing", house, "give", name, "b")

    def test_no_person(self):
        house = trading_house()
        for name in ("b", "", "A2", "shell", "a4"):
            self.assert_refused(NoPerson, "no person", house, "give", "shell", name)

    def test_not_partners(self):
        house = trading_house()
        house.person("b", 2)
        for name in ("a1", "a3", "b"):
            self.assert_refused(NotPartners, "not partners", house, "give", "shell", name)
            self.assert_refused(NotPartners, "not partners", house, "give", "band", name)
        house.part("a1", "a2")
        # They are neither partners nor does an arm ring go that way.
        self.assert_refused(NotPartners, "not partners", house, "give", "shell", "a2")
        self.assert_refused(NotPartners, "not partners", house, "give", "band", "a2")

    def test_wrong_way(self):
        house = trading_house()
        self.assert_refused(WrongWay, "wrong way", house, "give", "shell", "a0")
        self.assert_refused(WrongWay, "wrong way", house, "give", "band", "a2")
        do_all(house, ("home", 0), ("home", 2))
        # WrongWay and NoFleet are due.
        self.assert_refused(WrongWay, "wrong way", house, "give", "shell", "a0")
        self.assert_refused(WrongWay, "wrong way", house, "give", "band", "a2")

    def test_wrong_way_in_the_least_ring(self):
        house = trading_house(3)
        self.assert_refused(WrongWay, "wrong way", house, "give", "shell", "a0")
        self.assert_refused(WrongWay, "wrong way", house, "give", "band", "a2")
        do_all(house, ("give", "shell", "a2"), ("give", "band", "a0"))

    def test_no_fleet(self):
        for name, receiver, island, away in (("shell", "a2", 2, "forward"), ("band", "a0", 0, "backward")):
            for islands in (3, 4, 20):
                house = trading_house(islands)
                # At home, then at another island, and the giver's own fleet at the receiver's.
                house.home(island)
                self.assert_refused(NoFleet, "no fleet", house, "give", name, receiver)
                house.sail(1, "forward" if name == "shell" else "backward")
                self.assert_refused(NoFleet, "no fleet", house, "give", name, receiver)
                house.sail(island, away)
                self.assert_refused(NoFleet, "no fleet", house, "give", name, receiver)
                do_all(house, ("home", island), ("sail", island, "backward" if name == "shell" else "forward"))
                self.assert_number(house.give(name, receiver), 0)

    def test_promised_to_somebody_else(self):
        for name, receiver in (("shell", "a2"), ("band", "a0")):
            house = trading_house()
            island = int(receiver[1])
            do_all(house, ("person", "b", island))
            do_all(house, ("partners", "a1", "b") if name == "shell" else ("partners", "b", "a1"))
            house.vow(name, "b", 3)
            self.assert_refused(Promised, "promised", house, "give", name, receiver)
            house.home(island)
            # NoFleet and Promised are due.
            self.assert_refused(NoFleet, "no fleet", house, "give", name, receiver)
            house.undo()
            self.assert_number(house.give(name, "b"), 0)

    def test_another_things_promise_does_not_matter(self):
        house = trading_house()
        do_all(house, ("person", "b", 2), ("partners", "a1", "b"), ("make", "other", "necklace", 1, "a1"))
        house.vow("other", "b", 3)
        self.assert_number(house.give("shell", "a2"), 0)
        self.assertEqual(look(house)["promises"], [("other", "a1", "b", 3, "standing")])


class RankTest(HouseTest):
    def test_one_more_for_each_whole_round(self):
        for islands in (3, 5, 20):
            for kind, way, step in (("necklace", "backward", 1), ("armring", "forward", -1)):
                house = ring_house(islands)
                house.make("shell", kind, 1000000, "a0")
                for island in range(islands):
                    house.sail(island, way)
                place = 0
                for given in range(2 * islands + 2):
                    self.assertEqual(thing(house, "shell")[1], 1000000 + given // islands)
                    place = (place + step) % islands
                    self.assert_number(house.give("shell", f"a{place}"), given)
                    # The row tells the rank just ahead of the gift.
                    self.assertEqual(look(house)["gifts"][-1][5], 1000000 + given // islands)
                self.assertEqual(thing(house, "shell")[1], 1000002)
                self.assertEqual(len(thing(house, "shell")[3]), 2 * islands + 3)

    def test_a_rank_that_grew_counts_in_the_pairing(self):
        for made, settled in ((3, []), (4, [0, 4])):
            house = ring_house(3)
            do_all(house, ("make", "shell", "necklace", 5, "a0"), ("make", "band", "armring", made, "a1"))
            do_all(house, ("sail", 1, "backward"), ("give", "shell", "a1"), ("home", 1))
            do_all(house, *[("sail", island, "forward") for island in range(3)])
            # Once round, and then to a0 again; only the second gift to a0 has the greater rank.
            do_all(house, ("give", "band", "a0"), ("give", "band", "a2"), ("give", "band", "a1"))
            self.assertEqual(look(house)["partners"][("a0", "a1")], ([0, 1], []))
            house.give("band", "a0")
            self.assertEqual(look(house)["gifts"][-1], (4, "band", "a1", "a0", 0, made + 1))
            self.assertEqual(look(house)["partners"][("a0", "a1")], ([0, 1, 4], settled))

    def test_a_hundred_gifts_of_two_partners(self):
        house = ring_house(3)
        do_all(house, ("sail", 1, "backward"), ("sail", 0, "forward"))
        for number in range(50):
            house.make(f"n{number}", "necklace", number + 1, "a0")
            house.make(f"r{number}", "armring", 50 - number, "a1")
        for number in range(50):
            house.give(f"n{number}", "a1")
        for number in range(50):
            house.give(f"r{number}", "a0")
        numbers, settled = look(house)["partners"][("a0", "a1")]
        self.assertEqual(numbers, list(range(100)))
        self.assertEqual(settled, list(range(100)))
        house.part("a0", "a1")


class VowTest(HouseTest):
    def test_a_promise_stands(self):
        house = trading_house()
        self.assert_number(house.vow("shell", "a2", 0), 0)
        self.assert_number(house.vow("band", "a0", 1000000), 1)
        self.assertEqual(look(house)["promises"], [
            ("shell", "a1", "a2", 0, "standing"), ("band", "a1", "a0", 1000000, "standing"),
        ])
        # Nothing is given by it.
        self.assertEqual(look(house)["gifts"], [])
        self.assertEqual(thing(house, "shell")[2], "a1")

    def test_no_fleet_is_asked(self):
        house = trading_house()
        do_all(house, ("home", 0), ("home", 2))
        self.assert_number(house.vow("shell", "a2", 4), 0)
        self.assert_number(house.vow("band", "a0", 4), 1)

    def test_kept(self):
        for name, receiver in (("shell", "a2"), ("band", "a0")):
            house = trading_house()
            house.vow(name, receiver, 2)
            do_all(house, ("season",), ("season",))
            self.assert_number(house.give(name, receiver), 0)
            kept = [(name, "a1", receiver, 2, "kept")]
            self.assertEqual(look(house)["promises"], kept)
            do_all(house, ("season",), ("season",))
            self.assertEqual(look(house)["promises"], kept)

    def test_broken_once_its_last_season_is_past(self):
        house = trading_house()
        do_all(house, ("vow", "shell", "a2", 1), ("vow", "band", "a0", 0))
        house.season()
        self.assertEqual([row[4] for row in look(house)["promises"]], ["standing", "broken"])
        house.season()
        self.assertEqual([row[4] for row in look(house)["promises"]], ["broken", "broken"])
        # Broken ones stay so, also where the thing is given then.
        do_all(house, ("give", "shell", "a2"), ("give", "band", "a0"), ("season",))
        self.assertEqual(look(house)["promises"], [
            ("shell", "a1", "a2", 1, "broken"), ("band", "a1", "a0", 0, "broken"),
        ])

    def test_a_broken_promise_hinders_nothing(self):
        house = trading_house()
        do_all(house, ("person", "b", 2), ("partners", "a1", "b"), ("vow", "shell", "b", 0))
        self.assert_refused(Promised, "promised", house, "give", "shell", "a2")
        house.season()
        self.assert_number(house.give("shell", "a2"), 0)
        self.assertEqual(look(house)["promises"], [("shell", "a1", "b", 0, "broken")])

    def test_promised_anew_behind_a_broken_and_a_kept_one(self):
        house = trading_house()
        do_all(house, ("vow", "shell", "a2", 0), ("season",))
        self.assert_number(house.vow("shell", "a2", 1), 1)
        house.give("shell", "a2")
        self.assertEqual([row[4] for row in look(house)["promises"]], ["broken", "kept"])
        self.assert_number(house.vow("shell", "a3", 1), 2)
        self.assert_refused(Promised, "promised", house, "vow", "shell", "a3", 1)
        house.season()
        self.assertEqual([row[4] for row in look(house)["promises"]], ["broken", "kept", "broken"])

    def test_promises_stay_when_partners_part(self):
        house = trading_house()
        do_all(house, ("person", "b", 2), ("partners", "a1", "b"), ("vow", "shell", "b", 1), ("part", "a1", "b"))
        standing = [("shell", "a1", "b", 1, "standing")]
        self.assertEqual(look(house)["promises"], standing)
        self.assert_refused(NotPartners, "not partners", house, "give", "shell", "b")
        self.assert_refused(Promised, "promised", house, "give", "shell", "a2")
        self.assert_refused(Promised, "promised", house, "vow", "shell", "a2", 1)
        do_all(house, ("season",), ("partners", "a1", "b"))
        self.assertEqual(look(house)["promises"], standing)
        house.give("shell", "b")
        self.assertEqual(look(house)["promises"], [("shell", "a1", "b", 1, "kept")])


class VowRefusedTest(HouseTest):
    def test_no_thing_and_no_person(self):
        house = trading_house()
        for name in ("none", "", "Shell", "a1"):
            self.assert_refused(NoThing, "no thing", house, "vow", name, "a2", 1)
            self.assert_refused(NoThing, "no thing", house, "vow", name, "b", 1)
        for name in ("b", "", "A2", "shell"):
            self.assert_refused(NoPerson, "no person", house, "vow", "shell", name, 1)
            self.assert_refused(NoPerson, "no person", house, "vow", "shell", name, -1)

    def test_not_partners_and_wrong_way(self):
        house = trading_house()
        for name in ("a1", "a3"):
            self.assert_refused(NotPartners, "not partners", house, "vow", "shell", name, 1)
            self.assert_refused(NotPartners, "not partners", house, "vow", "band", name, 1)
        for last in (1, -1, 1000001):
            # The last two: WrongWay and BadSeason are due.
            self.assert_refused(WrongWay, "wrong way", house, "vow", "shell", "a0", last)
            self.assert_refused(WrongWay, "wrong way", house, "vow", "band", "a2", last)
        house.part("a1", "a2")
        # NotPartners and WrongWay: an arm ring would not go there either.
        self.assert_refused(NotPartners, "not partners", house, "vow", "band", "a2", 1)

    def test_last_seasons(self):
        house = trading_house()
        for now in range(3):
            for last in (now - 1, -1, 1000001, FIFTY, -FIFTY, SIXTY):
                self.assert_refused(BadSeason, "bad season", house, "vow", "shell", "a2", last)
            for last in (now, now + 1, 1000000):
                self.assert_number(house.vow("shell", "a2", last), 0)
                house.undo()
            house.season()

    def test_promised(self):
        house = trading_house()
        do_all(house, ("person", "b", 2), ("partners", "a1", "b"), ("vow", "shell", "a2", 2))
        for receiver in ("a2", "b"):
            self.assert_refused(Promised, "promised", house, "vow", "shell", receiver, 1)
            self.assert_refused(Promised, "promised", house, "vow", "shell", receiver, 2)
            # BadSeason and Promised are due.
            self.assert_refused(BadSeason, "bad season", house, "vow", "shell", receiver, -1)
            self.assert_refused(BadSeason, "bad season", house, "vow", "shell", receiver, 1000001)
        self.assert_number(house.vow("band", "a0", 2), 1)


if __name__ == "__main__":
    unittest.main()
