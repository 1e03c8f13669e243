"""Long runs of deeds, undoings and redoings, and the plain house with which they are held together."""

import plain
import putting
from houses import do, ended
from shellround.errors import NothingLeft

PEOPLE = [f"p{number}" for number in range(9)]
THINGS = [f"t{number}" for number in range(7)]


def some_pair(chance, told):
    """Two names that may well be partners, or neighbours."""
    if told["partners"] and chance.random() < 0.4:
        return chance.choice(list(told["partners"]))
    people = list(told["people"]) + ["nobody"]
    behind = chance.choice(people)
    near = [
        name for name, island in told["people"].items()
        if plain.neighbour(told, told["people"].get(behind, 0), "forward") == island
    ]
    return behind, chance.choice(near if near and chance.random() < 0.8 else people)


def some_way(chance, told):
    """A thing, and a name to whom it may well go."""
    thing = chance.choice(list(told["things"]) * 5 + ["none"])
    if thing not in told["things"] or chance.random() < 0.1:
        return thing, chance.choice(PEOPLE + ["nobody"])
    holder, kind = plain.holder_of(told, thing), told["things"][thing]["kind"]
    ahead = [pair[1] for pair in told["partners"] if pair[0] == holder]
    behind = [pair[0] for pair in told["partners"] if pair[1] == holder]
    right, wrong = (ahead, behind) if kind == "necklace" else (behind, ahead)
    people = told["people"]
    ready = [name for name in right if told["fleets"].get(people[name]) == people[holder]]
    return thing, chance.choice((chance.choice([ready or right] * 5 + [right, wrong])) or PEOPLE)


def some_sailing(chance, told, thing, receiver):
    """A deed that may well bring the receiver's fleet to where the thing is."""
    if thing not in told["things"] or receiver not in told["people"]:
        return ("sail", chance.choice([-1, told["islands"]]), "forward")
    island = told["people"][receiver]
    if island in told["fleets"]:
        return ("home", island)
    forward = plain.neighbour(told, island, "forward") == told["people"][plain.holder_of(told, thing)]
    return ("sail", island, "forward" if forward else "backward")


def first_deeds(chance, islands):
    """People, partners and things, most of them such as can be."""
    deeds = [("person", name, at % islands) for at, name in enumerate(PEOPLE)]
    deeds += [
        ("partners", behind, ahead) for behind_at, behind in enumerate(PEOPLE) for ahead_at, ahead in enumerate(PEOPLE)
        if (behind_at + 1) % islands == ahead_at % islands and chance.random() < 0.7
    ]
    return deeds + [
        ("make", name, chance.choice(["necklace", "armring"]), chance.randint(1, 5), chance.choice(PEOPLE))
        for name in THINGS[1:]
    ]


def some_deed(chance, told):
    """A deed that is likely, but not sure, to be done on the plain house that is told."""
    islands = told["islands"]
    island = chance.choice([-1, islands]) if chance.random() < 0.1 else chance.randrange(islands)
    kind = chance.choice(["necklace", "armring"] * 5 + ["ring"])
    way = chance.choice(["forward", "backward"] * 5 + ["up"])
    thing, receiver = some_way(chance, told)
    return chance.choice(
        [("person", chance.choice(PEOPLE + ["Ana"]), island)] * 2
        + [("partners", *some_pair(chance, told))] * 3
        + [("part", *some_pair(chance, told))] * 2
        + [("make", chance.choice(THINGS + ["T"]), kind, chance.choice([0, 1, 2, 3, 3, 3, 4, 5]), receiver)] * 2
        + [("sail", island, way)] * 4
        + [("home", island)] * 3
        + [some_sailing(chance, told, thing, receiver)] * 8
        + [("give", thing, receiver)] * 20
        + [("vow", thing, receiver, told["season"] + chance.randint(-1, 3))] * 4
        + [("season",)] * 2
    )


def some_whole_gift(chance, told):
    """The deeds that bring the receiver's fleet to a thing's holder, as far as they are needed, and the gift."""
    ways = [
        (thing, giver, receiver) for pair in told["partners"] for thing in told["things"]
        for giver, receiver in (pair, pair[::-1])
        if plain.holder_of(told, thing) == giver and (told["things"][thing]["kind"] == "necklace") == (giver == pair[0])
    ]
    if not ways:
        return []
    thing, giver, receiver = chance.choice(ways)
    island, place = told["people"][receiver], told["people"][giver]
    if told["fleets"].get(island) == place:
        return [("give", thing, receiver)]
    way = "forward" if plain.neighbour(told, island, "forward") == place else "backward"
    return [("home", island)] * (island in told["fleets"]) + [("sail", island, way), ("give", thing, receiver)]


def some_parting(chance, told):
    """A parting of two between whom there are gifts, all in pairs, and most often their coming together again."""
    pairs = [
        pair for pair, numbers in told["partners"].items()
        if numbers and len(putting.settled(plain.rows_of(told, numbers))) == len(numbers)
    ]
    if not pairs:
        return []
    pair = chance.choice(pairs)
    return [("part", *pair)] + [("partners", *pair)] * chance.choice([0, 1, 1])


def some_acts(chance, told):
    """A deed, or some undoings, or some redoings."""
    which = chance.random()
    if which < 0.06:
        return [("undo",)] * chance.randint(1, 3)
    if which < 0.1:
        return [("redo",)] * chance.randint(1, 3)
    if which < 0.3:
        return some_whole_gift(chance, told)
    if which < 0.35:
        return some_parting(chance, told)
    return [some_deed(chance, told)]


def acts_of_a_run(chance, story, steps):
    """The acts of a run, one by one; each is told in sight of what the ones ahead made of the story."""
    yield from first_deeds(chance, story.now()["islands"])
    for _ in range(steps):
        yield from some_acts(chance, story.now())


class Story:
    """A plain house with its deeds."""

    def __init__(self, islands):
        # Pairs of a deed and the plain house behind it.
        self.stood = [(None, plain.empty(islands))]
        self.undone = []

    def now(self):
        return self.stood[-1][1]

    def deeds(self):
        return [deed for deed, _ in self.stood[1:]]

    def undone_deeds(self):
        return [deed for deed, _ in self.undone[::-1]]

    def act(self, deed):
        """Does a deed, undoes or redoes; what is told of it."""
        if deed == ("undo",):
            return self.undo()
        if deed == ("redo",):
            return self.redo()
        after, told = plain.done(self.now(), deed)
        self.stood.append((deed, after))
        self.undone.clear()
        return told

    def undo(self):
        if len(self.stood) == 1:
            raise NothingLeft()
        self.undone.append(self.stood.pop())
        return self.undone[-1][0]

    def redo(self):
        if not self.undone:
            raise NothingLeft()
        self.stood.append(self.undone.pop())
        return self.stood[-1][0]


def act_on_both(test, house, story, deed):
    """Does a deed, an undoing or a redoing on both; it ends alike, and that is told."""
    end = ended(lambda: story.act(deed))
    test.assertEqual(ended(lambda: do(house, deed)), end)
    return end
