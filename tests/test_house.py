"""Points 5, 10, 11, 12 and 15: a house's people, partners, things, fleets and seasons."""

import unittest

from houses import FIFTY, NO_NAMES, SIXTY, HouseTest, do_all, look, ring_house
from shellround.errors import (
    Away, BadKind, BadName, BadRank, BadRing, BadWay, NoIsland, NoPerson, NotAway, NotNeighbours, NotPartners, Owing,
    Taken, Twice,
)
from shellround.house import House

NO_KINDS = ["", "Necklace", "necklaces", "armring ", "arm ring", "forward", "armring\n"]
NO_RANKS = [0, -1, 1000001, -1000000, FIFTY, -FIFTY, SIXTY]
NO_WAYS = ["", "Forward", "forwards", "backward ", "back", "necklace", "forward\n"]
EMPTY = {
    "people": [], "partners": {}, "things": [], "fleets": {}, "gifts": [], "promises": [], "season": 0,
}


def no_islands(islands):
    return [-1, -islands, islands, islands + 1, 20, FIFTY, -FIFTY, SIXTY]


class RingTest(HouseTest):
    def test_counts_of_islands_that_no_ring_has(self):
        for islands in (2, 1, 0, -1, -3, 21, 22, 100, FIFTY, -FIFTY, SIXTY):
            with self.subTest(islands), self.assertRaises(BadRing) as caught:
                House(islands)
            self.assertIs(type(caught.exception), BadRing)
            self.assertEqual(caught.exception.word, "bad ring")

    def test_a_house_has_nobody_at_first(self):
        for islands in range(3, 21):
            self.assertEqual(look(House(islands)), EMPTY)


class PersonTest(HouseTest):
    def test_somebody_comes(self):
        house = House(3)
        self.assert_tells_nothing(house, "person", "zoe", 2)
        self.assert_tells_nothing(house, "person", "ana", 0)
        self.assert_tells_nothing(house, "person", "abcdefghijk1", 0)
        self.assertEqual(look(house)["people"], [("zoe", 2), ("ana", 0), ("abcdefghijk1", 0)])

    def test_each_island_of_the_ring(self):
        for islands in (3, 20):
            house = House(islands)
            for island in range(islands):
                house.person(f"p{island}", island)
            self.assertEqual(look(house)["people"], [(f"p{island}", island) for island in range(islands)])
            for island in no_islands(islands):
                self.assert_refused(NoIsland, "no island", house, "person", "ana", island)

    def test_no_names(self):
        house = ring_house()
        for name in NO_NAMES:
            self.assert_refused(BadName, "bad name", house, "person", name, 0)
            self.assert_refused(BadName, "bad name", house, "person", name, 4)

    def test_taken(self):
        house = ring_house()
        self.assert_refused(Taken, "taken", house, "person", "a0", 0)
        self.assert_refused(Taken, "taken", house, "person", "a0", 1)
        # Taken and NoIsland are due.
        self.assert_refused(Taken, "taken", house, "person", "a0", 4)
        self.assert_refused(Taken, "taken", house, "person", "a3", -1)

    def test_a_thing_may_have_a_persons_name(self):
        house = House(3)
        house.person("ana", 0)
        house.make("ana", "necklace", 1, "ana")
        house.make("bo", "necklace", 1, "ana")
        house.person("bo", 0)
        self.assertEqual(look(house)["people"], [("ana", 0), ("bo", 0)])
        self.assertEqual([row[0] for row in look(house)["things"]], ["ana", "bo"])

    def test_a_hundred_people(self):
        house = House(20)
        for number in range(100):
            house.person(f"p{number}", number % 20)
        self.assertEqual(len(look(house)["people"]), 100)


class PartnersTest(HouseTest):
    def test_two_are_made_partners(self):
        for islands in (3, 4, 20):
            house = House(islands)
            for island in range(islands):
                house.person(f"a{island}", island)
            for island in range(islands):
                self.assert_tells_nothing(house, "partners", f"a{island}", f"a{(island + 1) % islands}")
            pairs = {(f"a{island}", f"a{(island + 1) % islands}"): ([], []) for island in range(islands)}
            self.assertEqual(look(house)["partners"], pairs)

    def test_several_on_one_island(self):
        house = House(3)
        do_all(house, ("person", "a", 0), ("person", "b", 1), ("person", "c", 1), ("person", "d", 0))
        do_all(house, ("partners", "a", "b"), ("partners", "a", "c"), ("partners", "d", "c"))
        self.assertEqual(set(look(house)["partners"]), {("a", "b"), ("a", "c"), ("d", "c")})

    def test_no_person(self):
        house = ring_house()
        for name in ("b", "a4", "A0", "", "a0 "):
            self.assert_refused(NoPerson, "no person", house, "partners", name, "a1")
            self.assert_refused(NoPerson, "no person", house, "partners", "a0", name)
            self.assert_refused(NoPerson, "no person", house, "partners", name, name)

    def test_a_things_name_is_nobodys(self):
        house = ring_house()
        house.make("shell", "necklace", 1, "a0")
        self.assert_refused(NoPerson, "no person", house, "partners", "a0", "shell")
        self.assert_refused(NoPerson, "no person", house, "part", "shell", "a1")
        self.assert_refused(NoPerson, "no person", house, "make", "other", "necklace", 1, "shell")

    def test_not_neighbours(self):
        for islands in (3, 4, 20):
            house = House(islands)
            for island in range(islands):
                house.person(f"a{island}", island)
            house.person("b0", 0)
            last = f"a{islands - 1}"
            for behind, ahead in (("a0", "a0"), ("a0", "b0"), ("a1", "a0"), ("a0", "a2"), ("a0", last)):
                self.assert_refused(NotNeighbours, "not neighbours", house, "partners", behind, ahead)

    def test_partners_told_the_other_way_about_are_no_neighbours(self):
        for islands in (3, 4, 20):
            house = ring_house(islands)
            self.assert_refused(NotNeighbours, "not neighbours", house, "partners", "a1", "a0")
            self.assert_refused(NotNeighbours, "not neighbours", house, "partners", "a0", f"a{islands - 1}")

    def test_twice(self):
        house = ring_house()
        self.assert_refused(Twice, "told twice", house, "partners", "a0", "a1")
        self.assert_refused(Twice, "told twice", house, "partners", "a3", "a0")


class PartTest(HouseTest):
    def test_partners_without_gifts_part(self):
        house = ring_house(3)
        self.assert_tells_nothing(house, "part", "a2", "a0")
        self.assertEqual(set(look(house)["partners"]), {("a0", "a1"), ("a1", "a2")})
        self.assert_refused(NotPartners, "not partners", house, "part", "a2", "a0")

    def test_no_person(self):
        house = ring_house()
        for name in ("b", "a4", "", "A0"):
            self.assert_refused(NoPerson, "no person", house, "part", name, "a1")
            self.assert_refused(NoPerson, "no person", house, "part", "a0", name)

    def test_not_partners(self):
        house = ring_house()
        house.person("b", 1)
        for behind, ahead in (("a1", "a0"), ("a0", "a2"), ("a0", "a0"), ("a0", "b"), ("b", "a2"), ("a0", "a3")):
            self.assert_refused(NotPartners, "not partners", house, "part", behind, ahead)

    def test_an_open_gift_of_either_kind(self):
        for kind, giver, receiver, island, way in (
            ("necklace", "a0", "a1", 1, "backward"), ("armring", "a1", "a0", 0, "forward"),
        ):
            house = ring_house()
            do_all(house, ("sail", island, way), ("make", "shell", kind, 5, giver), ("give", "shell", receiver))
            self.assert_refused(Owing, "owing", house, "part", "a0", "a1")
            # Told the other way about they are no partners, so the open gift is not looked at.
            self.assert_refused(NotPartners, "not partners", house, "part", "a1", "a0")
            house.part("a1", "a2")

    def test_an_answered_gift(self):
        house = ring_house()
        do_all(
            house, ("sail", 1, "backward"), ("sail", 0, "forward"), ("make", "shell", "necklace", 5, "a0"),
            ("make", "band", "armring", 5, "a1"), ("make", "less", "armring", 4, "a1"),
            ("give", "shell", "a1"), ("give", "less", "a0"),
        )
        self.assert_refused(Owing, "owing", house, "part", "a0", "a1")
        house.give("band", "a0")
        # The lesser one answers nothing, and is itself open.
        self.assert_refused(Owing, "owing", house, "part", "a0", "a1")
        house.undo()
        house.undo()
        house.give("band", "a0")
        self.assert_tells_nothing(house, "part", "a0", "a1")

    def test_partners_again_begin_without_gifts(self):
        house = ring_house()
        do_all(
            house, ("sail", 1, "backward"), ("sail", 0, "forward"), ("make", "shell", "necklace", 5, "a0"),
            ("make", "band", "armring", 5, "a1"), ("give", "shell", "a1"), ("give", "band", "a0"), ("part", "a0", "a1"),
        )
        self.assertNotIn(("a0", "a1"), look(house)["partners"])
        self.assertEqual(len(look(house)["gifts"]), 2)
        self.assert_tells_nothing(house, "partners", "a0", "a1")
        self.assertEqual(look(house)["partners"][("a0", "a1")], ([], []))
        self.assertEqual(len(look(house)["gifts"]), 2)
        do_all(house, ("make", "new", "necklace", 1, "a0"), ("give", "new", "a1"))
        self.assertEqual(look(house)["partners"][("a0", "a1")], ([2], []))


class MakeTest(HouseTest):
    def test_things_are_made(self):
        house = ring_house()
        self.assert_tells_nothing(house, "make", "shell", "necklace", 1, "a2")
        house.season()
        self.assert_tells_nothing(house, "make", "band", "armring", 1000000, "a0")
        self.assert_tells_nothing(house, "make", "a0", "armring", 7, "a0")
        self.assertEqual(look(house)["things"], [
            ("shell", "necklace", 1, "a2", [(0, "a2")]),
            ("band", "armring", 1000000, "a0", [(1, "a0")]),
            ("a0", "armring", 7, "a0", [(1, "a0")]),
        ])

    def test_each_refusal_by_itself(self):
        house = ring_house()
        house.make("shell", "necklace", 5, "a0")
        for name in NO_NAMES:
            self.assert_refused(BadName, "bad name", house, "make", name, "necklace", 5, "a0")
        self.assert_refused(Taken, "taken", house, "make", "shell", "necklace", 5, "a0")
        for kind in NO_KINDS:
            self.assert_refused(BadKind, "bad kind", house, "make", "band", kind, 5, "a0")
        for rank in NO_RANKS:
            self.assert_refused(BadRank, "bad rank", house, "make", "band", "armring", rank, "a0")
        for name in ("b", "shell", "", "A0", "band"):
            self.assert_refused(NoPerson, "no person", house, "make", "band", "armring", 5, name)

    def test_neighbouring_refusals_at_once(self):
        house = ring_house()
        house.make("shell", "necklace", 5, "a0")
        self.assert_refused(BadName, "bad name", house, "make", "Band", "ring", 5, "a0")
        self.assert_refused(Taken, "taken", house, "make", "shell", "ring", 5, "a0")
        self.assert_refused(BadKind, "bad kind", house, "make", "band", "ring", 0, "a0")
        self.assert_refused(BadRank, "bad rank", house, "make", "band", "armring", 0, "b")
        self.assert_refused(BadName, "bad name", house, "make", "Band", "ring", 0, "b")
        self.assert_refused(Taken, "taken", house, "make", "shell", "ring", 0, "b")
        self.assert_refused(BadKind, "bad kind", house, "make", "band", "ring", 0, "b")

    def test_a_hundred_things(self):
        house = ring_house(3)
        for number in range(100):
            house.make(f"t{number}", ("necklace", "armring")[number % 2], number + 1, f"a{number % 3}")
        self.assertEqual(len(look(house)["things"]), 100)


class FleetTest(HouseTest):
    def test_each_fleet_both_ways(self):
        for islands in (3, 20):
            for island in range(islands):
                for way, place in (("forward", (island + 1) % islands), ("backward", (island - 1) % islands)):
                    house = House(islands)
                    self.assert_tells_nothing(house, "sail", island, way)
                    self.assertEqual(look(house)["fleets"], {island: place})
                    self.assert_tells_nothing(house, "home", island)
                    self.assertEqual(look(house)["fleets"], {})

    def test_all_fleets_at_once(self):
        house = House(3)
        do_all(house, ("sail", 2, "forward"), ("sail", 0, "backward"), ("sail", 1, "backward"))
        self.assertEqual(look(house)["fleets"], {2: 0, 0: 2, 1: 0})
        house.home(0)
        self.assertEqual(look(house)["fleets"], {2: 0, 1: 0})

    def test_sailing_is_refused(self):
        house = House(4)
        house.sail(1, "forward")
        for island in no_islands(4):
            self.assert_refused(NoIsland, "no island", house, "sail", island, "forward")
            # NoIsland and BadWay are due.
            self.assert_refused(NoIsland, "no island", house, "sail", island, "back")
        for way in NO_WAYS:
            self.assert_refused(BadWay, "bad way", house, "sail", 0, way)
            # BadWay and Away are due.
            self.assert_refused(BadWay, "bad way", house, "sail", 1, way)
        self.assert_refused(Away, "away", house, "sail", 1, "forward")
        self.assert_refused(Away, "away", house, "sail", 1, "backward")

    def test_coming_home_is_refused(self):
        house = House(4)
        house.sail(1, "forward")
        for island in no_islands(4):
            self.assert_refused(NoIsland, "no island", house, "home", island)
        # At island 2 lies the fleet of island 1, its own is at home.
        for island in (0, 2, 3):
            self.assert_refused(NotAway, "not away", house, "home", island)
        house.home(1)
        self.assert_refused(NotAway, "not away", house, "home", 1)

    def test_it_lies_there_till_it_comes_home(self):
        house = ring_house()
        do_all(house, ("sail", 1, "backward"), ("season",), ("season",), ("make", "shell", "necklace", 1, "a0"))
        self.assertEqual(look(house)["fleets"], {1: 0})
        house.give("shell", "a1")
        self.assertEqual(look(house)["fleets"], {1: 0})
        do_all(house, ("home", 1), ("sail", 1, "forward"))
        self.assertEqual(look(house)["fleets"], {1: 2})


class SeasonTest(HouseTest):
    def test_a_season_leads_to_the_next_one(self):
        house = House(3)
        for number in range(1, 30):
            self.assert_number(house.season(), number)
            self.assertEqual(look(house)["season"], number)


class BesideTest(HouseTest):
    def test_two_houses_beside_one_another(self):
        one, other = House(3), House(3)
        do_all(one, ("person", "ana", 0), ("sail", 0, "forward"), ("season",))
        self.assertEqual(look(other), EMPTY)
        do_all(other, ("person", "ana", 2), ("person", "bo", 0), ("partners", "ana", "bo"))
        do_all(other, ("make", "shell", "necklace", 3, "ana"), ("sail", 0, "backward"), ("give", "shell", "bo"))
        self.assertEqual(look(one)["people"], [("ana", 0)])
        self.assertEqual(look(one)["gifts"], [])
        self.assertEqual(look(one)["fleets"], {0: 1})
        self.assertEqual(look(other)["season"], 0)
        self.assertEqual(one.undo(), ("season",))
        self.assertEqual(other.undo(), ("give", "shell", "bo"))
        self.assertEqual(other.redo(), ("give", "shell", "bo"))
        self.assertEqual(one.redo(), ("season",))


if __name__ == "__main__":
    unittest.main()
