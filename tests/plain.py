"""Points 10 to 16, and 18's texts, in their own words, told the plain way: what the tests hold houses against.

A plain house is a dict; a deed is tried on a deep copy of it. It has no part of the program but the refusals' classes.
"""

import copy
import re

import putting
from shellround import errors

NAME = re.compile(r"[a-z][a-z0-9]{0,11}")
NUMBER = re.compile(r"0|[1-9][0-9]{0,8}")
DEED_FORMS = (
    "person NAME NUMBER", "partners NAME NAME", "part NAME NAME", "make NAME NAME NUMBER NAME", "sail NUMBER NAME",
    "home NUMBER", "give NAME NAME", "vow NAME NAME NUMBER", "season",
)
DEED_TEXT = re.compile("|".join(
    form.replace("NAME", NAME.pattern).replace("NUMBER", f"(?:{NUMBER.pattern})") for form in DEED_FORMS
))


def empty(islands):
    return {
        "islands": islands, "people": {}, "partners": {}, "things": {}, "fleets": {}, "gifts": [], "promises": [],
        "season": 0,
    }


def look(plain):
    """The plain house in the form of houses.look."""
    return {
        "people": list(plain["people"].items()),
        "partners": {
            pair: (list(numbers), [numbers[at] for at in putting.settled(rows_of(plain, numbers))])
            for pair, numbers in plain["partners"].items()
        },
        "things": [
            (name, thing["kind"], rank_of(plain, name), holder_of(plain, name), list(thing["line"]))
            for name, thing in plain["things"].items()
        ],
        "fleets": dict(plain["fleets"]),
        "gifts": list(plain["gifts"]),
        "promises": [tuple(promise) for promise in plain["promises"]],
        "season": plain["season"],
    }


def rows_of(plain, numbers):
    """Gifts as pairs (kind, rank)."""
    return [(plain["things"][plain["gifts"][number][1]]["kind"], plain["gifts"][number][5]) for number in numbers]


def holder_of(plain, name):
    return plain["things"][name]["line"][-1][1]


def rank_of(plain, name):
    thing = plain["things"][name]
    given = len(thing["line"]) - 1
    rank = thing["rank"]
    while given >= plain["islands"]:
        given -= plain["islands"]
        rank += 1
    return rank


def pair_of(plain, number):
    """The two between whom a gift went, the one behind first."""
    thing, giver, receiver = plain["gifts"][number][1:4]
    return (giver, receiver) if plain["things"][thing]["kind"] == "necklace" else (receiver, giver)


def standing(plain, name):
    found = [promise for promise in plain["promises"] if promise[0] == name and promise[4] == "standing"]
    assert len(found) < 2
    return found[0] if found else None


def refuse(*rows):
    """Raises the first refusal of rows (class, whether it is due); a test that is not to be asked yet is a def."""
    for error, due in rows:
        if due() if callable(due) else due:
            raise error()


def no_island(plain, island):
    return island not in range(plain["islands"])


def person(plain, name, island):
    refuse(
        (errors.BadName, not NAME.fullmatch(name)),
        (errors.Taken, name in plain["people"]),
        (errors.NoIsland, no_island(plain, island)),
    )
    plain["people"][name] = island


def partners(plain, behind, ahead):
    people = plain["people"]
    refuse(
        (errors.NoPerson, behind not in people or ahead not in people),
        (errors.NotNeighbours, lambda: neighbour(plain, people[behind], "forward") != people[ahead]),
        (errors.Twice, (behind, ahead) in plain["partners"]),
    )
    plain["partners"][behind, ahead] = []


def part(plain, behind, ahead):
    pair = (behind, ahead)

    def owing():
        rows = rows_of(plain, plain["partners"][pair])
        return len(putting.settled(rows)) < len(rows)

    refuse(
        (errors.NoPerson, behind not in plain["people"] or ahead not in plain["people"]),
        (errors.NotPartners, pair not in plain["partners"]),
        (errors.Owing, owing),
    )
    del plain["partners"][pair]


def make(plain, thing, kind, rank, holder):
    refuse(
        (errors.BadName, not NAME.fullmatch(thing)),
        (errors.Taken, thing in plain["things"]),
        (errors.BadKind, kind not in ("necklace", "armring")),
        (errors.BadRank, rank not in range(1, 1000001)),
        (errors.NoPerson, holder not in plain["people"]),
    )
    plain["things"][thing] = {"kind": kind, "rank": rank, "line": [(plain["season"], holder)]}


def neighbour(plain, island, way):
    last = plain["islands"] - 1
    if way == "forward":
        return 0 if island == last else island + 1
    return last if island == 0 else island - 1


def sail(plain, island, way):
    refuse(
        (errors.NoIsland, no_island(plain, island)),
        (errors.BadWay, way not in ("forward", "backward")),
        (errors.Away, island in plain["fleets"]),
    )
    plain["fleets"][island] = neighbour(plain, island, way)


def home(plain, island):
    refuse(
        (errors.NoIsland, no_island(plain, island)),
        (errors.NotAway, island not in plain["fleets"]),
    )
    del plain["fleets"][island]


def way_rows(plain, thing, receiver):
    """The refusals that a gift and a promise have in common."""
    def holder():
        return holder_of(plain, thing)

    def right_pair():
        return (holder(), receiver) if plain["things"][thing]["kind"] == "necklace" else (receiver, holder())

    return (
        (errors.NoThing, thing not in plain["things"]),
        (errors.NoPerson, receiver not in plain["people"]),
        (errors.NotPartners, lambda: not {(holder(), receiver), (receiver, holder())} & set(plain["partners"])),
        (errors.WrongWay, lambda: right_pair() not in plain["partners"]),
    )


def give(plain, thing, receiver):
    def lies_elsewhere():
        home_island = plain["people"][receiver]
        return plain["fleets"].get(home_island, home_island) != plain["people"][holder_of(plain, thing)]

    def promised():
        promise = standing(plain, thing)
        return promise is not None and promise[2] != receiver

    refuse(*way_rows(plain, thing, receiver), (errors.NoFleet, lies_elsewhere), (errors.Promised, promised))
    giver, number = holder_of(plain, thing), len(plain["gifts"])
    plain["gifts"].append((number, thing, giver, receiver, plain["season"], rank_of(plain, thing)))
    for pair in ((giver, receiver), (receiver, giver)):
        if pair in plain["partners"]:
            plain["partners"][pair].append(number)
    plain["things"][thing]["line"].append((plain["season"], receiver))
    if standing(plain, thing):
        standing(plain, thing)[4] = "kept"
    return number


def vow(plain, thing, receiver, last):
    refuse(
        *way_rows(plain, thing, receiver),
        (errors.BadSeason, last < plain["season"] or last > 1000000),
        (errors.Promised, lambda: standing(plain, thing) is not None),
    )
    plain["promises"].append([thing, holder_of(plain, thing), receiver, last, "standing"])
    return len(plain["promises"]) - 1


def season(plain):
    plain["season"] += 1
    for promise in plain["promises"]:
        if promise[4] == "standing" and plain["season"] > promise[3]:
            promise[4] = "broken"
    return plain["season"]


DEEDS = {
    "person": person, "partners": partners, "part": part, "make": make, "sail": sail, "home": home, "give": give,
    "vow": vow, "season": season,
}


def done(plain, deed):
    """A pair: the plain house behind a deed, and what the deed told."""
    after = copy.deepcopy(plain)
    told = DEEDS[deed[0]](after, *deed[1:])
    return after, told


def text_of(deed):
    return " ".join(str(part) for part in deed)
