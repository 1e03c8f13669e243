"""Point 17 and the interface's part on roads."""

import unittest

from houses import HouseTest, asked_twice, do_all, ended, look, ring_house
from shellround import asks
from shellround.errors import NoPerson, NoThing
from shellround.house import House
from shellround.roads import gifts_to, reach, road, whole_round

NO_NAMES = ("nobody", "", "A0", "a0 ", " a0", "a0\n")


def house_of(islands, people, partners):
    """People are a text of names, the island's number behind a letter; partners a text of pairs."""
    house = House(islands)
    for name in people.split():
        house.person(name, int(name[1:]))
    for pair in partners.split():
        house.partners(*pair.split(">"))
    return house


class RoadsTest(HouseTest):
    def assert_road(self, house, thing, name, *roads):
        """A road that is one of these is told; none stands for None."""
        before = look(house), asks.deeds(house), asks.undone(house)
        found = asked_twice(self, lambda: road(house, thing, name))
        self.assertIn(found, roads or (None,))
        many = gifts_to(house, thing, name)
        if roads:
            self.assertIs(type(found), list)
            self.assert_number(many, len(roads[0]) - 1)
        else:
            self.assertIsNone(many)
        self.assertEqual((look(house), asks.deeds(house), asks.undone(house)), before)

    def assert_reach(self, house, thing, *names):
        self.assertEqual(asked_twice(self, lambda: reach(house, thing)), list(names))

    def assert_round(self, house, thing, *rounds):
        found = asked_twice(self, lambda: whole_round(house, thing))
        self.assertIn(found, rounds or (None,))
        if rounds:
            self.assertIs(type(found), list)


class RoadTest(RoadsTest):
    def test_round_the_ring_both_ways(self):
        house = ring_house(5)
        do_all(house, ("make", "shell", "necklace", 1, "a1"), ("make", "band", "armring", 1, "a1"))
        names = ["a1", "a2", "a3", "a4", "a0"]
        for many in range(1, 6):
            self.assert_road(house, "shell", names[many - 1], names[:many])
        names = ["a1", "a0", "a4", "a3", "a2"]
        for many in range(1, 6):
            self.assert_road(house, "band", names[many - 1], names[:many])

    def test_from_the_holder_now(self):
        house = ring_house(3)
        do_all(house, ("make", "shell", "necklace", 1, "a0"), ("sail", 1, "backward"), ("give", "shell", "a1"))
        self.assert_road(house, "shell", "a1", ["a1"])
        self.assert_road(house, "shell", "a0", ["a1", "a2", "a0"])
        house.undo()
        self.assert_road(house, "shell", "a0", ["a0"])
        self.assert_road(house, "shell", "a1", ["a0", "a1"])
        house.redo()
        self.assert_road(house, "shell", "a0", ["a1", "a2", "a0"])

    def test_whatever_fleets_and_promises_are(self):
        house = ring_house(3)
        do_all(house, ("person", "b1", 1), ("partners", "a0", "b1"), ("make", "shell", "necklace", 1, "a0"))
        do_all(house, ("vow", "shell", "b1", 9))
        self.assert_road(house, "shell", "a1", ["a0", "a1"])
        self.assert_road(house, "shell", "b1", ["a0", "b1"])
        self.assert_reach(house, "shell", "a0", "a1", "a2", "b1")
        house.sail(1, "forward")
        self.assert_road(house, "shell", "a1", ["a0", "a1"])

    def test_to_the_holder_alone(self):
        house = house_of(3, "a0 b1", "")
        house.make("shell", "necklace", 1, "a0")
        self.assert_road(house, "shell", "a0", ["a0"])
        self.assert_road(house, "shell", "b1")
        self.assert_reach(house, "shell", "a0")
        self.assert_round(house, "shell")

    def test_the_long_way_round(self):
        # Beside a1 lives b1, who has no partner behind but can be come to by those on islands 2, 3 and 0.
        house = house_of(4, "a0 a1 a2 a3 b0 b1", "a0>a1 a1>a2 a2>a3 a3>b0 b0>b1")
        house.make("shell", "necklace", 1, "a0")
        self.assert_road(house, "shell", "b1", ["a0", "a1", "a2", "a3", "b0", "b1"])
        self.assert_round(house, "shell")
        house.make("band", "armring", 1, "b1")
        self.assert_road(house, "band", "a0", ["b1", "b0", "a3", "a2", "a1", "a0"])
        self.assert_road(house, "band", "a1", ["b1", "b0", "a3", "a2", "a1"])

    def test_to_somebody_who_cannot_be_come_to(self):
        house = house_of(4, "a0 a1 a2 a3 b3", "a0>a1 a1>a2 a3>a0")
        do_all(house, ("make", "shell", "necklace", 1, "a0"), ("make", "band", "armring", 1, "a0"))
        # Partners behind are none to whom a necklace goes.
        self.assert_road(house, "shell", "a3")
        self.assert_road(house, "shell", "b3")
        self.assert_road(house, "band", "a3", ["a0", "a3"])
        self.assert_road(house, "band", "a1")
        self.assert_road(house, "band", "a2")

    def test_several_shortest_ones(self):
        house = house_of(4, "a0 a1 b1 a2 b2 c2 a3", "a0>a1 a0>b1 a1>a2 b1>b2 b1>c2 a2>a3 b2>a3")
        do_all(house, ("make", "shell", "necklace", 1, "a0"), ("make", "band", "armring", 1, "a3"))
        self.assert_road(house, "shell", "a3", ["a0", "a1", "a2", "a3"], ["a0", "b1", "b2", "a3"])
        self.assert_road(house, "shell", "c2", ["a0", "b1", "c2"])
        self.assert_road(house, "band", "a0", ["a3", "a2", "a1", "a0"], ["a3", "b2", "b1", "a0"])
        self.assert_road(house, "band", "c2")

    def test_a_shorter_one_by_later_partners(self):
        house = house_of(3, "a0 a1 a2 b0 b1", "a0>a1 a1>a2 a2>b0 b0>b1")
        house.make("shell", "necklace", 1, "a0")
        self.assert_road(house, "shell", "b1", ["a0", "a1", "a2", "b0", "b1"])
        house.partners("a0", "b1")
        self.assert_road(house, "shell", "b1", ["a0", "b1"])
        house.part("a0", "b1")
        self.assert_road(house, "shell", "b1", ["a0", "a1", "a2", "b0", "b1"])
        house.part("a1", "a2")
        self.assert_road(house, "shell", "b1")

    def test_a_hundred_people_in_one_line(self):
        house = House(20)
        for number in range(100):
            house.person(f"p{number}", number % 20)
        for number in range(99):
            house.partners(f"p{number}", f"p{number + 1}")
        do_all(house, ("make", "shell", "necklace", 1, "p0"), ("make", "band", "armring", 1, "p99"))
        names = [f"p{number}" for number in range(100)]
        self.assert_road(house, "shell", "p99", names)
        self.assert_road(house, "band", "p0", names[::-1])
        self.assert_reach(house, "shell", *names)
        self.assert_round(house, "shell")
        house.partners("p99", "p0")
        self.assert_round(house, "shell", names + ["p0"])
        self.assert_round(house, "band", names[::-1] + ["p99"])


class ReachTest(RoadsTest):
    def test_in_the_order_of_coming(self):
        house = house_of(4, "z3 m2 a1 y0 b2 k1", "y0>a1 y0>k1 a1>b2 b2>z3 k1>b2")
        do_all(house, ("make", "shell", "necklace", 1, "y0"), ("make", "band", "armring", 1, "b2"))
        self.assert_reach(house, "shell", "z3", "a1", "y0", "b2", "k1")
        self.assert_reach(house, "band", "a1", "y0", "b2", "k1")
        house.part("a1", "b2")
        self.assert_reach(house, "band", "y0", "b2", "k1")
        house.undo()
        self.assert_reach(house, "band", "a1", "y0", "b2", "k1")


class WholeRoundTest(RoadsTest):
    def test_a_ring_that_is_closed(self):
        for islands in (3, 4, 20):
            house = ring_house(islands)
            do_all(house, ("make", "shell", "necklace", 1, "a1"), ("make", "band", "armring", 1, "a1"))
            ahead = [f"a{(1 + step) % islands}" for step in range(islands + 1)]
            self.assert_round(house, "shell", ahead)
            self.assert_round(house, "band", ahead[::-1])

    def test_a_ring_that_is_not_closed(self):
        house = ring_house(4)
        do_all(house, ("make", "shell", "necklace", 1, "a1"), ("make", "band", "armring", 1, "a1"))
        house.part("a3", "a0")
        self.assert_round(house, "shell")
        self.assert_round(house, "band")
        house.undo()
        self.assert_round(house, "shell", ["a1", "a2", "a3", "a0", "a1"])

    def test_twice_round(self):
        house = house_of(3, "a0 a1 a2 b0 b1 b2", "a0>a1 a1>a2 a2>b0 b0>b1 b1>b2 b2>a0")
        do_all(house, ("make", "shell", "necklace", 1, "a1"), ("make", "band", "armring", 1, "a1"))
        names = ["a1", "a2", "b0", "b1", "b2", "a0", "a1"]
        self.assert_round(house, "shell", names)
        self.assert_round(house, "band", names[::-1])
        house.partners("a2", "a0")
        self.assert_round(house, "shell", ["a1", "a2", "a0", "a1"])
        self.assert_round(house, "band", ["a1", "a0", "a2", "a1"])

    def test_a_closed_ring_that_does_not_come_to_the_holder(self):
        house = house_of(3, "a0 b1 b2 b0", "a0>b1 b1>b2 b2>b0 b0>b1")
        do_all(house, ("make", "shell", "necklace", 1, "a0"), ("make", "other", "necklace", 1, "b1"))
        self.assert_round(house, "shell")
        self.assert_reach(house, "shell", "a0", "b1", "b2", "b0")
        self.assert_round(house, "other", ["b1", "b2", "b0", "b1"])

    def test_several_shortest_ones(self):
        house = house_of(3, "a0 a1 b1 a2", "a0>a1 a0>b1 a1>a2 b1>a2 a2>a0")
        house.make("shell", "necklace", 1, "a0")
        self.assert_round(house, "shell", ["a0", "a1", "a2", "a0"], ["a0", "b1", "a2", "a0"])
        house.part("a0", "a1")
        self.assert_round(house, "shell", ["a0", "b1", "a2", "a0"])


class RefusedTest(RoadsTest):
    def assert_ask_refused(self, error, word, question, house, *handed):
        before = look(house), asks.deeds(house), asks.undone(house)
        self.assertEqual(ended(lambda: question(house, *handed)), (error, word))
        self.assertEqual((look(house), asks.deeds(house), asks.undone(house)), before)

    def test_no_thing(self):
        house = ring_house(3)
        house.make("shell", "necklace", 1, "a0")
        for thing in (*NO_NAMES, "a0", "Shell"):
            for question in (road, gifts_to):
                self.assert_ask_refused(NoThing, "no thing", question, house, thing, "a0")
                # NoThing and NoPerson are due.
                self.assert_ask_refused(NoThing, "no thing", question, house, thing, "nobody")
                self.assert_ask_refused(NoThing, "no thing", question, house, thing, "")
            for question in (reach, whole_round):
                self.assert_ask_refused(NoThing, "no thing", question, house, thing)

    def test_no_person(self):
        house = ring_house(3)
        house.make("shell", "necklace", 1, "a0")
        for name in (*NO_NAMES, "shell"):
            for question in (road, gifts_to):
                self.assert_ask_refused(NoPerson, "no person", question, house, "shell", name)

    def test_an_empty_house(self):
        house = House(3)
        for question in (road, gifts_to):
            self.assert_ask_refused(NoThing, "no thing", question, house, "shell", "ana")
        for question in (reach, whole_round):
            self.assert_ask_refused(NoThing, "no thing", question, house, "shell")

    def test_a_thing_that_was_undone(self):
        house = ring_house(3)
        house.make("shell", "necklace", 1, "a0")
        house.undo()
        self.assert_ask_refused(NoThing, "no thing", reach, house, "shell")
        house.redo()
        self.assert_reach(house, "shell", "a0", "a1", "a2")


if __name__ == "__main__":
    unittest.main()
