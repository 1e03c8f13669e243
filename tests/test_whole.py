"""Points 1 to 4 over the whole program, and the interface's names and arguments."""

import inspect
import unittest

from houses import FIFTY, SIXTY, HouseTest, asked_twice, do, do_all, ended, look, ring_house, undo_all
from shellround import asks, desk, errors, house, names, notes, pairing, ring, roads
from shellround.desk import Desk
from shellround.house import House
from shellround.pairing import Pairing

FUNCTIONS = {
    ring: "onward(islands, island, steps); ahead_of(islands, island, other); rounds_in(islands, steps)",
    names: "is_name(name); is_rank(rank); other_kind(kind)",
    asks: "people(house); things(house); island_of(house, name); partners_of(house, name); held_by(house, name); "
          "owed_by(house, name); owed_to(house, name); thing_of(house, thing); line_of(house, thing); "
          "steps_of(house, thing); gifts(house); gifts_between(house, behind, ahead); answers(house, behind, ahead); "
          "unanswered(house, behind, ahead); paper(house, behind, ahead, kind); could_answer(house, number); "
          "vows(house); fleets(house); season_now(house); deeds(house); undone(house)",
    roads: "road(house, thing, name); gifts_to(house, thing, name); reach(house, thing); whole_round(house, thing)",
    notes: "deed_text(deed); read_deed(text); written(house); read(text)",
    pairing.Pairing: "add(self, kind, rank); many(self); gift(self, number); fits(self, one, other); "
                     "mate(self, number); pairs(self); settled(self); unsettled(self); paper(self, kind); twin(self)",
    house.House: "__init__(self, islands); person(self, name, island); partners(self, behind, ahead); "
                 "part(self, behind, ahead); make(self, thing, kind, rank, holder); sail(self, island, way); "
                 "home(self, island); give(self, thing, receiver); vow(self, thing, receiver, last); season(self); "
                 "undo(self); redo(self)",
    desk.Desk: "__init__(self, islands); say(self, row)",
}


def all_questions(asked):
    """Each question that there is, of all that there is in a house."""
    of_house = (
        asks.people, asks.things, asks.gifts, asks.vows, asks.fleets, asks.season_now, asks.deeds, asks.undone,
        notes.written,
    )
    found = [(question,) for question in of_house]
    people, things = asks.people(asked), asks.things(asked)
    for name in people:
        of_person = (asks.island_of, asks.partners_of, asks.held_by, asks.owed_by, asks.owed_to)
        found += [(question, name) for question in of_person]
        for ahead in asks.partners_of(asked, name)[1]:
            found += [(question, name, ahead) for question in (asks.gifts_between, asks.answers, asks.unanswered)]
            found += [(asks.paper, name, ahead, kind) for kind in ("necklace", "armring")]
    for thing in things:
        of_thing = (asks.thing_of, asks.line_of, asks.steps_of, roads.reach, roads.whole_round)
        found += [(question, thing) for question in of_thing]
        found += [(question, thing, name) for question in (roads.road, roads.gifts_to) for name in people]
    return found + [(asks.could_answer, number) for number in range(len(asks.gifts(asked)))]


def full_house():
    """On the greatest ring a hundred people and a hundred things; p0 and p1 have a hundred gifts; a thousand deeds."""
    deeds = [("person", f"p{number}", number % 20) for number in range(100)]
    deeds += [("partners", f"p{number}", f"p{(number + 1) % 100}") for number in range(100)]
    deeds += [("partners", f"p{number}", f"p{(number + 21) % 100}") for number in range(100)]
    deeds += [("sail", 0, "forward"), ("sail", 1, "backward")]
    for number in range(50):
        deeds.append(("make", f"n{number}", "necklace", number + 1, "p0"))
        deeds.append(("make", f"r{number}", "armring", 75 - number, "p1"))
    deeds += [("give", f"n{number}", "p1") for number in range(50)]
    deeds += [("give", f"r{number}", "p0") for number in range(50)]
    while len(deeds) < 1000:
        deeds += [("season",), ("sail", 7, "forward"), ("home", 7)]
    full = House(20)
    do_all(full, *deeds[:1000])
    return full, deeds[:1000]


class InterfaceTest(unittest.TestCase):
    def test_names_and_arguments(self):
        for place, rows in FUNCTIONS.items():
            for row in rows.split("; "):
                name = row.partition("(")[0]
                with self.subTest(row):
                    self.assertEqual(f"{name}{inspect.signature(getattr(place, name))}", row)

    def test_a_pairing_is_made_of_nothing(self):
        self.assertEqual(Pairing().many(), 0)

    def test_the_desks_field(self):
        self.assertIs(type(Desk(3).house), House)


class OwnTest(HouseTest):
    def trading_house(self):
        found = ring_house(3)
        do_all(
            found, ("sail", 0, "forward"), ("sail", 1, "backward"), ("make", "shell", "necklace", 5, "a0"),
            ("make", "comb", "necklace", 6, "a0"), ("make", "band", "armring", 5, "a1"), ("vow", "comb", "a1", 4),
            ("give", "shell", "a1"), ("give", "band", "a0"), ("give", "comb", "a1"), ("season",), ("season",),
        )
        found.undo()
        return found

    def test_what_is_told_is_the_askers_own(self):
        asked = self.trading_house()
        for question, *handed in all_questions(asked):
            with self.subTest(question.__name__, handed=handed):
                asked_twice(self, lambda: question(asked, *handed))

    def test_asking_changes_nothing(self):
        asked = self.trading_house()
        for question, *handed in all_questions(asked):
            before = look(asked), asks.deeds(asked), asks.undone(asked), notes.written(asked)
            question(asked, *handed)
            self.assertEqual((look(asked), asks.deeds(asked), asks.undone(asked), notes.written(asked)), before)
        self.assertEqual(asked.redo(), ("season",))

    def test_spoilt_answers_of_a_pairing(self):
        told = Pairing()
        for kind, rank in (("necklace", 2), ("armring", 2), ("necklace", 3), ("armring", 1)):
            told.add(kind, rank)
        for ask in (
            told.pairs, told.settled, told.unsettled, lambda: told.gift(0), lambda: told.paper("necklace"),
            lambda: told.paper("armring"),
        ):
            asked_twice(self, ask)
        twin = told.twin()
        twin.add("armring", 9)
        self.assertEqual(told.many(), 4)
        self.assertEqual(told.unsettled(), [2, 3])

    def test_two_houses_have_nothing_to_do_with_one_another(self):
        one, other = self.trading_house(), self.trading_house()
        before = look(other), asks.deeds(other), asks.undone(other)
        do_all(one, ("person", "eve", 0), ("part", "a1", "a2"), ("home", 0))
        undo_all(one)
        self.assertEqual((look(other), asks.deeds(other), asks.undone(other)), before)
        read = notes.read(notes.written(other))
        undo_all(read)
        said = Desk(3)
        said.say("person a0 1")
        self.assertEqual((look(other), asks.deeds(other), asks.undone(other)), before)

    def test_what_is_refused_leaves_all_as_it_was(self):
        asked = self.trading_house()
        asked.person("eve", 0)
        asked.undo()
        for deed in (
            ("person", "a0", 9), ("partners", "a0", "a2"), ("part", "a0", "a1"), ("make", "shell", "ring", 0, "eve"),
            ("sail", 0, "up"), ("home", 2), ("give", "shell", "a0"), ("vow", "shell", "a2", SIXTY),
        ):
            before = look(asked), asks.deeds(asked), asks.undone(asked), notes.written(asked)
            self.assertNotEqual(ended(lambda: do(asked, deed))[0], "told")
            self.assertEqual((look(asked), asks.deeds(asked), asks.undone(asked), notes.written(asked)), before)
        self.assertEqual(asks.undone(asked), [("person", "eve", 0)])


class BoundsTest(HouseTest):
    def test_a_full_house(self):
        full, deeds = full_house()
        self.assertEqual(asks.deeds(full), deeds)
        self.assertEqual(len(asks.people(full)), 100)
        self.assertEqual(len(asks.things(full)), 100)
        self.assertEqual(asks.gifts_between(full, "p0", "p1"), list(range(100)))
        open_gifts = asks.unanswered(full, "p0", "p1")
        self.assertEqual(len(asks.answers(full, "p0", "p1")) * 2 + len(open_gifts), 100)
        first, second = asks.paper(full, "p0", "p1", "necklace")
        self.assertEqual(len(first) - len(second), len([number for number in open_gifts if number < 50]))
        self.assertEqual(sorted(asks.owed_by(full, "p1") + asks.owed_by(full, "p0")), open_gifts)
        for name in asks.people(full):
            self.assertEqual(roads.road(full, "r0", name)[0], "p0")
        self.assertEqual(len(roads.whole_round(full, "n0")), 21)
        self.assertEqual(roads.reach(full, "n0"), asks.people(full))

    def test_a_full_house_there_and_back(self):
        full, deeds = full_house()
        text = notes.written(full)
        again = notes.read(text)
        self.assertEqual(look(again), look(full))
        self.assertEqual(asks.deeds(again), deeds)
        self.assertEqual(undo_all(again), deeds[::-1])
        said = Desk(20)
        for row in text.split("\n")[1:]:
            self.assertNotEqual(said.say(row)[:3], "no:")
        self.assertEqual(notes.written(said.house), text)

    def test_numbers_of_sixty_figures(self):
        asked = ring_house(3)
        for number in (SIXTY, -SIXTY, FIFTY, -FIFTY):
            self.assertEqual(ended(lambda: asks.could_answer(asked, number)), (errors.NoGift, "no gift"))
            self.assertEqual(ended(lambda: Desk(number)), (errors.BadRing, "bad ring"))
            self.assertEqual(notes.deed_text(("home", number)), f"home {number}")
            self.assertEqual(ended(lambda: notes.read_deed(f"home {number}")), (errors.BadText, "bad text"))
            self.assertEqual(Desk(3).say(f"home {number}"), "no: bad text")

    def test_texts_of_forty_thousand_signs(self):
        asked = ring_house(3)
        for text in ("a" * 40000, " " * 40000, "\n" * 40000, "season " * 5714, "1" * 40000):
            self.assertEqual(ended(lambda: asks.island_of(asked, text)), (errors.NoPerson, "no person"))
            self.assertEqual(ended(lambda: asks.thing_of(asked, text)), (errors.NoThing, "no thing"))
            self.assertEqual(ended(lambda: asks.paper(asked, "a0", "a1", text)), (errors.BadKind, "bad kind"))
            self.assertEqual(ended(lambda: notes.read_deed(text)), (errors.BadText, "bad text"))
            self.assertEqual(ended(lambda: notes.read(text)), (errors.BadText, "bad text"))
            self.assertEqual(ended(lambda: notes.read(f"ring 3\n{text}")), (errors.BadText, "bad text"))
            self.assertEqual(Desk(3).say(text), "no: bad text")


if __name__ == "__main__":
    unittest.main()
