"""Points 10 to 16: long runs of deeds, held against the plain house of plain.py at each step."""

import random
import unittest

import plain
from houses import HouseTest, do, look
from shellround.errors import NothingLeft, RoundError
from shellround.house import House

PEOPLE = [f"p{number}" for number in range(9)]
THINGS = [f"t{number}" for number in range(7)]


def some_pair(chance, told):
    """Two names that may well be partners, or neighbours."""
    if told["partners"] and chance.random() < 0.4:
        return chance.choice(list(told["partners"]))
    people = list(told["people"]) + ["nobody"]
    behind = chance.choice(people)
    near = [
        name for name, island in told["people"].items()
        if plain.neighbour(told, told["people"].get(behind, 0), "forward") == island
    ]
    return behind, chance.choice(near if near and chance.random() < 0.8 else people)


def some_way(chance, told):
    """A thing, and a name to whom it may well go."""
    thing = chance.choice(list(told["things"]) * 5 + ["none"])
    if thing not in told["things"] or chance.random() < 0.1:
        return thing, chance.choice(PEOPLE + ["nobody"])
    holder, kind = plain.holder_of(told, thing), told["things"][thing]["kind"]
    ahead = [pair[1] for pair in told["partners"] if pair[0] == holder]
    behind = [pair[0] for pair in told["partners"] if pair[1] == holder]
    right, wrong = (ahead, behind) if kind == "necklace" else (behind, ahead)
    people = told["people"]
    ready = [name for name in right if told["fleets"].get(people[name]) == people[holder]]
    return thing, chance.choice((chance.choice([ready or right] * 5 + [right, wrong])) or PEOPLE)


def some_sailing(chance, told, thing, receiver):
    """A deed that may well bring the receiver's fleet to where the thing is."""
    if thing not in told["things"] or receiver not in told["people"]:
        return ("sail", chance.choice([-1, told["islands"]]), "forward")
    island = told["people"][receiver]
    if island in told["fleets"]:
        return ("home", island)
    forward = plain.neighbour(told, island, "forward") == told["people"][plain.holder_of(told, thing)]
    return ("sail", island, "forward" if forward else "backward")


def first_deeds(chance, islands):
    """People, partners and things, most of them such as can be."""
    deeds = [("person", name, at % islands) for at, name in enumerate(PEOPLE)]
    deeds += [
        ("partners", behind, ahead) for behind_at, behind in enumerate(PEOPLE) for ahead_at, ahead in enumerate(PEOPLE)
        if (behind_at + 1) % islands == ahead_at % islands and chance.random() < 0.7
    ]
    return deeds + [
        ("make", name, chance.choice(["necklace", "armring"]), chance.randint(1, 5), chance.choice(PEOPLE))
        for name in THINGS[1:]
    ]


def some_deed(chance, told):
    """A deed that is likely, but not sure, to be done on the plain house that is told."""
    islands = told["islands"]
    island = chance.choice([-1, islands]) if chance.random() < 0.1 else chance.randrange(islands)
    kind = chance.choice(["necklace", "armring"] * 5 + ["ring"])
    way = chance.choice(["forward", "backward"] * 5 + ["up"])
    thing, receiver = some_way(chance, told)
    return chance.choice(
        [("person", chance.choice(PEOPLE + ["Ana"]), island)] * 2
        + [("partners", *some_pair(chance, told))] * 3
        + [("part", *some_pair(chance, told))] * 2
        + [("make", chance.choice(THINGS + ["T"]), kind, chance.choice([0, 1, 2, 3, 3, 3, 4, 5]), receiver)] * 2
        + [("sail", island, way)] * 4
        + [("home", island)] * 3
        + [some_sailing(chance, told, thing, receiver)] * 8
        + [("give", thing, receiver)] * 20
        + [("vow", thing, receiver, told["season"] + chance.randint(-1, 3))] * 2
        + [("season",)]
    )


class RunsTest(HouseTest):
    def assert_same(self, house, deed, told):
        """The deed on the house ends as on the plain one: told is a value, or the refusal's class."""
        if isinstance(told, type):
            with self.assertRaises(RoundError) as caught:
                do(house, deed)
            self.assertIs(type(caught.exception), told)
            self.assertEqual(caught.exception.word, told().word)
        else:
            self.assertEqual(do(house, deed), told)

    def step(self, house, deed, states, undone):
        """Does a deed on both; states are pairs (deed, plain house behind it)."""
        try:
            after, told = plain.done(states[-1][1], deed)
        except RoundError as refusal:
            self.assert_same(house, deed, type(refusal))
            return type(refusal)
        self.assert_same(house, deed, told)
        states.append((deed, after))
        undone.clear()
        return deed[0]

    def go_back(self, house, states, undone):
        if len(states) == 1:
            self.assert_same(house, ("undo",), NothingLeft)
        else:
            undone.append(states.pop())
            self.assert_same(house, ("undo",), undone[-1][0])

    def go_on(self, house, states, undone):
        if not undone:
            self.assert_same(house, ("redo",), NothingLeft)
        else:
            states.append(undone.pop())
            self.assert_same(house, ("redo",), states[-1][0])

    def run_through(self, seed, islands, steps):
        chance = random.Random(seed)
        house = House(islands)
        states, undone, met = [(None, plain.empty(islands))], [], set()
        for deed in first_deeds(chance, islands):
            met.add(self.step(house, deed, states, undone))
        for _ in range(steps):
            which = chance.random()
            if which < 0.06:
                for _ in range(chance.randint(1, 3)):
                    self.go_back(house, states, undone)
            elif which < 0.1:
                for _ in range(chance.randint(1, 3)):
                    self.go_on(house, states, undone)
            else:
                deed = some_deed(chance, states[-1][1])
                met.add(self.step(house, deed, states, undone))
            self.assertEqual(look(house), plain.look(states[-1][1]))
        while len(states) > 1:
            self.go_back(house, states, undone)
            self.assertEqual(look(house), plain.look(states[-1][1]))
        self.go_back(house, states, undone)
        return met

    def test_runs(self):
        met = set()
        for seed in range(24):
            with self.subTest(seed):
                met |= self.run_through(seed, (3, 3, 4, 5)[seed % 4], 300)
        # The runs are worth nothing unless they come by every deed and every refusal.
        self.assertLessEqual(set(plain.DEEDS), met)
        refusals = {met_one.__name__ for met_one in met if isinstance(met_one, type)}
        self.assertEqual(refusals, set(
            "BadName Taken NoIsland NoPerson NotNeighbours Twice NotPartners Owing BadKind BadRank NoThing WrongWay "
            "NoFleet BadWay Away NotAway Promised BadSeason".split()
        ))


if __name__ == "__main__":
    unittest.main()
