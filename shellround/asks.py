"""Questions to a house. Asking changes nothing, and each list that is told is made anew for the asker."""

from shellround.checks import check_gift, check_partners, check_person, check_thing
from shellround.names import other_kind
from shellround.state import bond_for, is_for_another, rank_now


def people(house):
    """All people's names, in the order of their coming."""
    return list(house.state.people)


def things(house):
    """All things' names, in the order of their making."""
    return list(house.state.things)


def island_of(house, name):
    """The island on which somebody lives."""
    check_person(house.state, name)
    return house.state.people[name]


def partners_of(house, name):
    """The partners one island back and those one island ahead, each in the order in which the people came."""
    check_person(house.state, name)
    bonds = house.state.bonds
    back = [other for other in people(house) if (other, name) in bonds]
    ahead = [other for other in people(house) if (name, other) in bonds]
    return (back, ahead)


def held_by(house, name):
    """The things in somebody's hands, in the order of their making."""
    check_person(house.state, name)
    return [thing for thing, kept in house.state.things.items() if kept.holder() == name]


def owed_by(house, name):
    """The numbers of the open gifts that somebody got."""
    check_person(house.state, name)
    return [number for number in open_gifts(house) if house.state.gifts[number][3] == name]


def owed_to(house, name):
    """The numbers of the open gifts that somebody made."""
    check_person(house.state, name)
    return [number for number in open_gifts(house) if house.state.gifts[number][2] == name]


def open_gifts(house):
    """The rising numbers of all gifts of standing partners that are in no pair."""
    found = []
    for pairing, numbers in house.state.bonds.values():
        found.extend(numbers_at(numbers, pairing.unsettled()))
    return sorted(found)


def thing_of(house, thing):
    """A thing's kind, its rank now and its holder."""
    kept = kept_thing(house, thing)
    return (kept.kind, rank_now(house.islands, kept), kept.holder())


def line_of(house, thing):
    """Those who had a thing, as pairs (season, name) from the first one on."""
    return list(kept_thing(house, thing).line)


def steps_of(house, thing):
    """How often a thing was given."""
    return kept_thing(house, thing).steps()


def kept_thing(house, thing):
    """The Thing of a name."""
    check_thing(house.state, thing)
    return house.state.things[thing]


def gifts(house):
    """All gifts' rows, by their numbers."""
    return list(house.state.gifts)


def gifts_between(house, behind, ahead):
    """The numbers of two partners' gifts since they became partners last."""
    pairing, numbers = kept_bond(house, behind, ahead)
    return list(numbers)


def answers(house, behind, ahead):
    """Two partners' pairs of gifts' numbers, the earlier one first, rising."""
    pairing, numbers = kept_bond(house, behind, ahead)
    return [(numbers[earlier], numbers[later]) for earlier, later in pairing.pairs()]


def unanswered(house, behind, ahead):
    """The numbers of two partners' gifts that are in no pair."""
    pairing, numbers = kept_bond(house, behind, ahead)
    return numbers_at(numbers, pairing.unsettled())


def paper(house, behind, ahead, kind):
    """The paper of two partners' pairing for a kind, in gifts' numbers."""
    pairing, numbers = kept_bond(house, behind, ahead)
    left, fitting = pairing.paper(kind)
    return (numbers_at(numbers, left), numbers_at(numbers, fitting))


def kept_bond(house, behind, ahead):
    """Two partners' pairing, and the numbers that its gifts have in the house."""
    check_partners(house.state, behind, ahead)
    return house.state.bonds[(behind, ahead)]


def numbers_at(numbers, places):
    """The numbers in the house of those gifts that have the places in a pairing; rising, where the places rise."""
    return [numbers[place] for place in places]


def could_answer(house, number):
    """The things that would fit a gift if the one who got it gave them back now, in the order of their making."""
    check_gift(house.state, number)
    gift = house.state.gifts[number]
    if not is_between_partners(house.state, gift):
        return []
    return [name for name in held_by(house, gift[3]) if would_answer(house, name, gift)]


def is_between_partners(state, gift):
    """Whether a gift's row is one of standing partners' gifts since they became partners last."""
    number, thing, giver, receiver, season, rank = gift
    bond = bond_for(state.things[thing].kind, giver, receiver)
    return bond in state.bonds and number in state.bonds[bond][1]


def would_answer(house, name, gift):
    """Whether a thing, given back to a gift's giver, would fit the gift, and is promised to nobody else."""
    number, thing, giver, receiver, season, rank = gift
    kind, now, holder = thing_of(house, name)
    fits = kind == other_kind(house.state.things[thing].kind) and now >= rank
    return fits and not is_for_another(house.state, name, giver)


def vows(house):
    """All promises' rows, by their numbers."""
    return list(house.state.promises)


def fleets(house):
    """Pairs of an island and the island at which its fleet lies, for all fleets that are away, rising."""
    places = house.state.fleets
    return [(island, places[island]) for island in sorted(places)]


def season_now(house):
    """The season's number."""
    return house.state.now


def deeds(house):
    """The deeds that stand, in their order."""
    return [deed for deed, before in house.stood]


def undone(house):
    """The deeds that could be redone, the next one first."""
    return [deed for deed, after in reversed(house.undone)]
