"""The interface's part on questions, with points 7 to 16 behind it."""

import unittest

from houses import FIFTY, SIXTY, HouseTest, asked_twice, do_all, ended, ring_house
from shellround import asks
from shellround.errors import BadKind, NoGift, NoPerson, NoThing, NotPartners
from shellround.house import House

OF_PERSON = (asks.island_of, asks.partners_of, asks.held_by, asks.owed_by, asks.owed_to)
OF_THING = (asks.thing_of, asks.line_of, asks.steps_of)
OF_PAIR = (
    asks.gifts_between, asks.answers, asks.unanswered, lambda house, *pair: asks.paper(house, *pair, "necklace"),
    lambda house, *pair: asks.paper(house, *pair, "armring"),
)
NO_KINDS = ("", "ring", "Necklace", "necklace ", "armring\n", "forward", "ana")


def trading_house():
    """On a ring of four, a0 to a3 and b1 beside a1; the fleets of 0 and 1 lie so that a0 and a1 give both ways."""
    house = ring_house()
    do_all(
        house, ("person", "b1", 1), ("partners", "a0", "b1"), ("sail", 0, "forward"), ("sail", 1, "backward"),
        ("make", "shell", "necklace", 5, "a0"), ("make", "comb", "necklace", 3, "a0"),
        ("make", "band", "armring", 4, "a1"), ("make", "cuff", "armring", 9, "a1"),
    )
    return house


class AsksTest(HouseTest):
    def assert_told(self, expected, question, *handed):
        """This is told, in kinds as told, and changing it changes no later answer."""
        found = asked_twice(self, lambda: question(*handed))
        self.assertIs(type(found), type(expected))
        self.assertEqual(found, expected)

    def assert_ask_refused(self, error, word, question, house, *handed):
        before = asks.deeds(house), asks.undone(house)
        with self.subTest(handed=[str(part)[:40] for part in handed]):
            self.assertEqual(ended(lambda: question(house, *handed)), (error, word))
        self.assertEqual((asks.deeds(house), asks.undone(house)), before)


class EmptyTest(AsksTest):
    def test_each_question(self):
        for islands in (3, 20):
            house = House(islands)
            for question in (asks.people, asks.things, asks.gifts, asks.vows, asks.fleets, asks.deeds, asks.undone):
                self.assert_told([], question, house)
            self.assert_told(0, asks.season_now, house)
            for name in ("ana", "", "Ana", "a b"):
                for question in OF_PERSON:
                    self.assert_ask_refused(NoPerson, "no person", question, house, name)
                for question in OF_THING:
                    self.assert_ask_refused(NoThing, "no thing", question, house, name)
                for question in OF_PAIR:
                    self.assert_ask_refused(NoPerson, "no person", question, house, name, name)
            for number in (0, 1, -1, FIFTY, -FIFTY, SIXTY):
                self.assert_ask_refused(NoGift, "no gift", asks.could_answer, house, number)


class PeopleTest(AsksTest):
    def test_people_in_the_order_of_their_coming(self):
        house = House(5)
        do_all(house, ("person", "zoe", 4), ("person", "ana", 0), ("person", "moe", 4), ("person", "bo", 2))
        self.assert_told(["zoe", "ana", "moe", "bo"], asks.people, house)
        for name, island in (("zoe", 4), ("ana", 0), ("moe", 4), ("bo", 2)):
            self.assert_told(island, asks.island_of, house, name)
            self.assert_told(([], []), asks.partners_of, house, name)
        house.undo()
        self.assert_told(["zoe", "ana", "moe"], asks.people, house)
        self.assert_ask_refused(NoPerson, "no person", asks.island_of, house, "bo")
        house.person("abe", 1)
        self.assert_told(["zoe", "ana", "moe", "abe"], asks.people, house)

    def test_partners_in_the_order_in_which_the_people_came(self):
        house = House(3)
        do_all(
            house, ("person", "f2", 2), ("person", "d1", 1), ("person", "c0", 0), ("person", "b2", 2),
            ("person", "a0", 0), ("person", "e1", 1),
        )
        # They become partners in another order than the one in which they came.
        do_all(
            house, ("partners", "d1", "b2"), ("partners", "a0", "d1"), ("partners", "d1", "f2"),
            ("partners", "c0", "d1"), ("partners", "c0", "e1"),
        )
        self.assert_told((["c0", "a0"], ["f2", "b2"]), asks.partners_of, house, "d1")
        self.assert_told(([], ["d1", "e1"]), asks.partners_of, house, "c0")
        self.assert_told((["d1"], []), asks.partners_of, house, "f2")
        self.assert_told((["c0"], []), asks.partners_of, house, "e1")
        house.part("c0", "d1")
        self.assert_told((["a0"], ["f2", "b2"]), asks.partners_of, house, "d1")
        house.partners("c0", "d1")
        self.assert_told((["c0", "a0"], ["f2", "b2"]), asks.partners_of, house, "d1")

    def test_partners_over_the_end_of_the_ring(self):
        for islands in (3, 20):
            house = ring_house(islands)
            last = islands - 1
            self.assert_told(([f"a{last}"], ["a1"]), asks.partners_of, house, "a0")
            self.assert_told(([f"a{last - 1}"], ["a0"]), asks.partners_of, house, f"a{last}")

    def test_names_that_nobody_has(self):
        house = trading_house()
        for name in ("nobody", "", "A0", "a0 ", " a0", "a0\n", "shell", "band", "a" * 13):
            for question in OF_PERSON:
                self.assert_ask_refused(NoPerson, "no person", question, house, name)


class ThingsTest(AsksTest):
    def test_things_in_the_order_of_their_making(self):
        house = trading_house()
        self.assert_told(["shell", "comb", "band", "cuff"], asks.things, house)
        self.assert_told(["shell", "comb"], asks.held_by, house, "a0")
        self.assert_told(["band", "cuff"], asks.held_by, house, "a1")
        self.assert_told([], asks.held_by, house, "a2")
        house.give("shell", "a1")
        # The shell was made first, though it came to a1 last.
        self.assert_told(["shell", "band", "cuff"], asks.held_by, house, "a1")
        self.assert_told(["comb"], asks.held_by, house, "a0")
        self.assert_told(["shell", "comb", "band", "cuff"], asks.things, house)
        house.undo()
        self.assert_told(["shell", "comb"], asks.held_by, house, "a0")
        house.redo()
        self.assert_told(["comb"], asks.held_by, house, "a0")

    def test_a_thing_and_its_line(self):
        house = trading_house()
        house.season()
        self.assert_told(("necklace", 5, "a0"), asks.thing_of, house, "shell")
        self.assert_told([(0, "a0")], asks.line_of, house, "shell")
        self.assert_told(0, asks.steps_of, house, "shell")
        do_all(house, ("give", "shell", "a1"), ("season",), ("sail", 2, "backward"), ("give", "shell", "a2"))
        self.assert_told(("necklace", 5, "a2"), asks.thing_of, house, "shell")
        self.assert_told([(0, "a0"), (1, "a1"), (2, "a2")], asks.line_of, house, "shell")
        self.assert_told(2, asks.steps_of, house, "shell")
        self.assert_told(("armring", 4, "a1"), asks.thing_of, house, "band")
        house.make("late", "armring", 1000000, "a3")
        self.assert_told([(2, "a3")], asks.line_of, house, "late")

    def test_the_rank_grows_with_each_whole_round(self):
        for islands in (3, 20):
            for kind, way, step in (("necklace", "backward", 1), ("armring", "forward", -1)):
                house = ring_house(islands)
                do_all(house, *[("sail", island, way) for island in range(islands)])
                house.make("shell", kind, 1000000, "a0")
                for given in range(1, 2 * islands + 2):
                    house.give("shell", f"a{given * step % islands}")
                    expected = (kind, 1000000 + given // islands, f"a{given * step % islands}")
                    self.assert_told(expected, asks.thing_of, house, "shell")
                    self.assert_told(given, asks.steps_of, house, "shell")
                for given in range(2 * islands, -1, -1):
                    house.undo()
                    self.assertEqual(asks.thing_of(house, "shell")[1], 1000000 + given // islands)

    def test_names_that_no_thing_has(self):
        house = trading_house()
        for name in ("none", "", "Shell", "shell ", "a0", "nobody"):
            for question in OF_THING:
                self.assert_ask_refused(NoThing, "no thing", question, house, name)

    def test_one_name_for_a_person_and_a_thing(self):
        house = trading_house()
        do_all(house, ("make", "a0", "armring", 2, "a3"), ("person", "shell", 3))
        self.assert_told(("armring", 2, "a3"), asks.thing_of, house, "a0")
        self.assert_told(0, asks.island_of, house, "a0")
        self.assert_told(3, asks.island_of, house, "shell")
        self.assert_told([], asks.held_by, house, "shell")
        self.assert_told(("necklace", 5, "a0"), asks.thing_of, house, "shell")


class GiftsTest(AsksTest):
    def test_rows_and_numbers(self):
        house = trading_house()
        do_all(house, ("give", "shell", "a1"), ("season",), ("give", "band", "a0"), ("give", "comb", "b1"))
        rows = [(0, "shell", "a0", "a1", 0, 5), (1, "band", "a1", "a0", 1, 4), (2, "comb", "a0", "b1", 1, 3)]
        self.assert_told(rows, asks.gifts, house)
        self.assert_told([0, 1], asks.gifts_between, house, "a0", "a1")
        self.assert_told([2], asks.gifts_between, house, "a0", "b1")
        self.assert_told([], asks.gifts_between, house, "a1", "a2")
        house.undo()
        self.assert_told(rows[:2], asks.gifts, house)
        self.assert_told([], asks.gifts_between, house, "a0", "b1")
        house.redo()
        self.assert_told(rows, asks.gifts, house)

    def test_answers_in_gifts_numbers(self):
        house = trading_house()
        # A gift elsewhere comes first, so that places in the pairing and numbers differ.
        do_all(house, ("give", "comb", "b1"), ("give", "shell", "a1"), ("give", "band", "a0"))
        self.assert_told([], asks.answers, house, "a0", "a1")
        self.assert_told([1, 2], asks.unanswered, house, "a0", "a1")
        self.assert_told(([1], []), asks.paper, house, "a0", "a1", "necklace")
        self.assert_told(([2], []), asks.paper, house, "a0", "a1", "armring")
        house.give("cuff", "a0")
        self.assert_told([(1, 3)], asks.answers, house, "a0", "a1")
        self.assert_told([2], asks.unanswered, house, "a0", "a1")
        self.assert_told(([], []), asks.paper, house, "a0", "a1", "necklace")
        self.assert_told(([2], []), asks.paper, house, "a0", "a1", "armring")
        self.assert_told([0], asks.unanswered, house, "a0", "b1")
        house.undo()
        self.assert_told([], asks.answers, house, "a0", "a1")
        house.redo()
        self.assert_told([(1, 3)], asks.answers, house, "a0", "a1")

    def test_a_paper_with_gifts_that_are_in_pairs(self):
        house = trading_house()
        do_all(
            house, ("make", "low", "necklace", 3, "a0"), ("give", "comb", "b1"), ("give", "low", "a1"),
            ("give", "shell", "a1"), ("give", "cuff", "a0"),
        )
        # Both necklaces want the one arm ring.
        self.assert_told([(1, 3)], asks.answers, house, "a0", "a1")
        self.assert_told(([1, 2], [3]), asks.paper, house, "a0", "a1", "necklace")
        self.assert_told(([], []), asks.paper, house, "a0", "a1", "armring")
        house.give("band", "a0")
        self.assert_told([(1, 4), (2, 3)], asks.answers, house, "a0", "a1")
        self.assert_told([], asks.unanswered, house, "a0", "a1")

    def test_refusals_of_two(self):
        house = trading_house()
        for question in OF_PAIR:
            for name in ("nobody", "", "A0", "shell"):
                self.assert_ask_refused(NoPerson, "no person", question, house, name, "a1")
                self.assert_ask_refused(NoPerson, "no person", question, house, "a0", name)
                # NoPerson and NotPartners are due.
                self.assert_ask_refused(NoPerson, "no person", question, house, name, name)
            # The other way about, oneself, too far, and neighbours that are none.
            for pair in (("a1", "a0"), ("a0", "a0"), ("a0", "a2"), ("b1", "a2"), ("a0", "a3")):
                self.assert_ask_refused(NotPartners, "not partners", question, house, *pair)

    def test_refusals_of_a_paper_at_once(self):
        house = trading_house()
        for kind in NO_KINDS:
            self.assert_ask_refused(BadKind, "bad kind", asks.paper, house, "a0", "a1", kind)
            self.assert_ask_refused(NotPartners, "not partners", asks.paper, house, "a1", "a0", kind)
            self.assert_ask_refused(NoPerson, "no person", asks.paper, house, "a0", "nobody", kind)
            self.assert_ask_refused(NoPerson, "no person", asks.paper, house, "nobody", "a0", kind)

    def test_parted_and_together_again(self):
        house = trading_house()
        do_all(house, ("give", "shell", "a1"), ("give", "cuff", "a0"), ("part", "a0", "a1"))
        self.assertEqual(len(asks.gifts(house)), 2)
        for question in OF_PAIR:
            self.assert_ask_refused(NotPartners, "not partners", question, house, "a0", "a1")
        house.partners("a0", "a1")
        for question in OF_PAIR[:3]:
            self.assert_told([], question, house, "a0", "a1")
        self.assert_told(([], []), asks.paper, house, "a0", "a1", "necklace")
        do_all(house, ("give", "band", "a0"), ("give", "comb", "a1"))
        self.assert_told([2, 3], asks.gifts_between, house, "a0", "a1")
        self.assert_told([2, 3], asks.unanswered, house, "a0", "a1")
        self.assert_told(([2], []), asks.paper, house, "a0", "a1", "armring")
        self.assertEqual(len(asks.gifts(house)), 4)
        for _ in range(4):
            house.undo()
        self.assert_told([0, 1], asks.gifts_between, house, "a0", "a1")
        self.assert_told([(0, 1)], asks.answers, house, "a0", "a1")


class OwedTest(AsksTest):
    def test_both_ways(self):
        house = trading_house()
        do_all(house, ("give", "shell", "a1"), ("give", "band", "a0"), ("give", "comb", "b1"))
        self.assert_told([0], asks.owed_by, house, "a1")
        self.assert_told([1], asks.owed_by, house, "a0")
        self.assert_told([2], asks.owed_by, house, "b1")
        self.assert_told([1], asks.owed_to, house, "a1")
        self.assert_told([0, 2], asks.owed_to, house, "a0")
        self.assert_told([], asks.owed_to, house, "b1")
        self.assert_told([], asks.owed_by, house, "a2")
        house.give("cuff", "a0")
        self.assert_told([], asks.owed_by, house, "a1")
        self.assert_told([2], asks.owed_to, house, "a0")
        self.assert_told([1], asks.owed_by, house, "a0")
        house.undo()
        self.assert_told([0], asks.owed_by, house, "a1")

    def test_rising_whatever_the_partners_order_is(self):
        house = House(3)
        do_all(
            house, ("person", "mid", 1), ("person", "last", 0), ("person", "first", 0), ("partners", "last", "mid"),
            ("partners", "first", "mid"), ("sail", 1, "backward"), ("make", "s1", "necklace", 1, "first"),
            ("make", "s2", "necklace", 1, "last"), ("make", "s3", "necklace", 1, "first"),
            ("give", "s1", "mid"), ("give", "s2", "mid"), ("give", "s3", "mid"),
        )
        self.assert_told([0, 1, 2], asks.owed_by, house, "mid")
        self.assert_told([0, 2], asks.owed_to, house, "first")
        self.assert_told([1], asks.owed_to, house, "last")

    def test_of_standing_partners_alone(self):
        house = trading_house()
        do_all(house, ("give", "shell", "a1"), ("give", "cuff", "a0"), ("give", "comb", "b1"), ("part", "a0", "a1"))
        for name, by, to in (("a0", [], [2]), ("a1", [], []), ("b1", [2], [])):
            self.assert_told(by, asks.owed_by, house, name)
            self.assert_told(to, asks.owed_to, house, name)
        do_all(house, ("partners", "a0", "a1"), ("give", "band", "a0"))
        self.assert_told([3], asks.owed_by, house, "a0")
        self.assert_told([3], asks.owed_to, house, "a1")


class CouldAnswerTest(AsksTest):
    def test_of_the_other_kind_and_no_lesser(self):
        house = trading_house()
        do_all(
            house, ("make", "same", "armring", 5, "a1"), ("make", "neck", "necklace", 9, "a1"),
            ("make", "far", "armring", 9, "a2"), ("give", "shell", "a1"),
        )
        self.assert_told(["cuff", "same"], asks.could_answer, house, 0)
        house.undo()
        house.give("comb", "a1")
        self.assert_told(["band", "cuff", "same"], asks.could_answer, house, 0)

    def test_for_an_arm_ring(self):
        house = trading_house()
        house.give("band", "a0")
        self.assert_told(["shell"], asks.could_answer, house, 0)
        # Fleets and the gift's being in a pair don't matter.
        do_all(house, ("give", "shell", "a1"), ("home", 0), ("home", 1), ("make", "new", "necklace", 4, "a0"))
        self.assert_told([(0, 1)], asks.answers, house, "a0", "a1")
        self.assert_told(["new"], asks.could_answer, house, 0)
        self.assert_told(["cuff"], asks.could_answer, house, 1)

    def test_the_rank_now_counts(self):
        for made, found in ((3, []), (4, ["band"])):
            house = ring_house(3)
            do_all(house, *[("sail", island, "forward") for island in range(3)])
            do_all(house, ("make", "shell", "necklace", 5, "a0"), ("make", "band", "armring", made, "a1"))
            do_all(house, ("give", "band", "a0"), ("give", "band", "a2"), ("give", "band", "a1"))
            do_all(house, ("home", 1), ("sail", 1, "backward"), ("give", "shell", "a1"))
            self.assert_told(found, asks.could_answer, house, 3)

    def test_the_gifts_rank_is_that_of_its_row(self):
        house = ring_house(3)
        do_all(house, *[("sail", island, "backward") for island in range(3)])
        do_all(house, ("make", "shell", "necklace", 5, "a0"), ("make", "band", "armring", 5, "a1"))
        do_all(house, *[("give", "shell", f"a{step % 3}") for step in range(1, 5)])
        self.assert_told(("necklace", 6, "a1"), asks.thing_of, house, "shell")
        self.assert_told(["band"], asks.could_answer, house, 0)
        self.assert_told([], asks.could_answer, house, 3)

    def test_promises(self):
        house = trading_house()
        do_all(house, ("person", "b0", 0), ("partners", "b0", "a1"), ("give", "shell", "a1"))
        self.assert_told(["cuff"], asks.could_answer, house, 0)
        house.vow("cuff", "b0", 1)
        self.assert_told([], asks.could_answer, house, 0)
        # Broken it hinders no more.
        do_all(house, ("season",), ("season",))
        self.assert_told(["cuff"], asks.could_answer, house, 0)
        house.vow("cuff", "a0", 9)
        self.assert_told(["cuff"], asks.could_answer, house, 0)
        house.undo()
        house.undo()
        self.assert_told([], asks.could_answer, house, 0)
        house.undo()
        house.undo()
        self.assert_told(["cuff"], asks.could_answer, house, 0)

    def test_a_kept_promise_hinders_nothing(self):
        house = ring_house(3)
        do_all(house, *[("sail", island, "forward") for island in range(3)])
        do_all(house, ("make", "shell", "necklace", 1, "a0"), ("make", "band", "armring", 1, "a2"))
        do_all(house, ("vow", "band", "a1", 5), ("give", "band", "a1"))
        do_all(house, ("home", 1), ("sail", 1, "backward"), ("give", "shell", "a1"))
        self.assert_told(["band"], asks.could_answer, house, 1)

    def test_behind_a_parting(self):
        house = trading_house()
        do_all(house, ("make", "more", "armring", 9, "a1"), ("give", "shell", "a1"), ("give", "cuff", "a0"))
        self.assert_told(["more"], asks.could_answer, house, 0)
        self.assert_told([], asks.could_answer, house, 1)
        house.part("a0", "a1")
        self.assert_told([], asks.could_answer, house, 0)
        house.partners("a0", "a1")
        # They begin without gifts.
        self.assert_told([], asks.could_answer, house, 0)
        house.give("comb", "a1")
        self.assert_told(["band", "more"], asks.could_answer, house, 2)
        for _ in range(3):
            house.undo()
        self.assert_told(["more"], asks.could_answer, house, 0)

    def test_numbers_that_no_gift_has(self):
        house = trading_house()
        do_all(house, ("give", "shell", "a1"), ("give", "band", "a0"))
        for number in (-1, -2, -3, 2, 3, 100, FIFTY, -FIFTY, SIXTY, -SIXTY):
            self.assert_ask_refused(NoGift, "no gift", asks.could_answer, house, number)
        house.undo()
        self.assert_ask_refused(NoGift, "no gift", asks.could_answer, house, 1)
        house.redo()
        self.assert_told([], asks.could_answer, house, 1)


class VowsTest(AsksTest):
    def test_standing_kept_and_broken(self):
        house = trading_house()
        do_all(house, ("vow", "shell", "a1", 0), ("vow", "band", "a0", 1), ("vow", "comb", "b1", 1000000))
        rows = [("shell", "a0", "a1", 0), ("band", "a1", "a0", 1), ("comb", "a0", "b1", 1000000)]

        def assert_ways(*ways):
            self.assert_told([(*row, way) for row, way in zip(rows, ways)], asks.vows, house)

        assert_ways("standing", "standing", "standing")
        house.season()
        assert_ways("broken", "standing", "standing")
        house.give("band", "a0")
        assert_ways("broken", "kept", "standing")
        do_all(house, ("season",), ("give", "shell", "a1"))
        assert_ways("broken", "kept", "standing")
        for _ in range(4):
            house.undo()
        assert_ways("standing", "standing", "standing")
        house.redo()
        assert_ways("broken", "standing", "standing")


class FleetsTest(AsksTest):
    def test_those_that_are_away_rising(self):
        house = House(4)
        do_all(house, ("sail", 3, "forward"), ("sail", 0, "backward"), ("sail", 2, "backward"))
        self.assert_told([(0, 3), (2, 1), (3, 0)], asks.fleets, house)
        house.home(2)
        self.assert_told([(0, 3), (3, 0)], asks.fleets, house)
        house.undo()
        self.assert_told([(0, 3), (2, 1), (3, 0)], asks.fleets, house)

    def test_all_of_the_greatest_ring(self):
        house = House(20)
        for island in range(19, -1, -1):
            house.sail(island, "forward")
        self.assert_told([(island, (island + 1) % 20) for island in range(20)], asks.fleets, house)


class DeedsTest(AsksTest):
    def test_deeds_and_undone(self):
        deeds = [("person", "ana", 0), ("season",), ("sail", 1, "forward"), ("make", "x", "armring", 7, "ana")]
        house = House(3)
        do_all(house, *deeds)
        for stand in range(len(deeds), -1, -1):
            self.assert_told(deeds[:stand], asks.deeds, house)
            self.assert_told(deeds[stand:], asks.undone, house)
            if stand:
                house.undo()
        self.assert_told(0, asks.season_now, house)
        house.redo()
        house.redo()
        self.assert_told(1, asks.season_now, house)
        self.assert_told(deeds[:2], asks.deeds, house)
        self.assert_told(deeds[2:], asks.undone, house)
        self.assertNotEqual(ended(lambda: house.home(0))[0], "told")
        self.assert_told(deeds[2:], asks.undone, house)
        house.season()
        self.assert_told(deeds[:2] + [("season",)], asks.deeds, house)
        self.assert_told([], asks.undone, house)

    def test_a_spoilt_answer_can_still_be_undone_and_redone(self):
        house = House(3)
        do_all(house, ("person", "ana", 0), ("person", "bo", 1))
        house.undo()
        asks.deeds(house).clear()
        asks.undone(house).clear()
        self.assertEqual(house.redo(), ("person", "bo", 1))
        self.assertEqual([house.undo(), house.undo()], [("person", "bo", 1), ("person", "ana", 0)])


if __name__ == "__main__":
    unittest.main()
