"""What a house's deeds and the questions to it refuse, looked at in the state that the house has."""

from shellround.errors import (
    BadName, BadSeason, NoFleet, NoGift, NoPerson, NoThing, NotNeighbours, NotPartners, Promised, Taken, WrongWay,
)
from shellround.names import is_name
from shellround.ring import ahead_of
from shellround.state import bond_for, is_for_another, standing_promise

LAST_SEASON = 1000000


def check_new_name(rows, name):
    """Refuses a text that is no name, and a name that stands in the rows."""
    if not is_name(name):
        raise BadName("a name is a small letter and then at most eleven small letters and figures")
    if name in rows:
        raise Taken(f"{name} is there already")


def check_person(state, name):
    """Refuses a name that nobody has."""
    if name not in state.people:
        raise NoPerson("nobody has the name")


def check_neighbours(islands, state, behind, ahead):
    """Refuses two of whom the second one doesn't live one island ahead of the first."""
    if ahead_of(islands, state.people[behind], state.people[ahead]) != 1:
        raise NotNeighbours(f"{ahead} doesn't live one island ahead of {behind}")


def check_partners(state, behind, ahead):
    """Refuses two who are no partners, told in this order."""
    check_person(state, behind)
    check_person(state, ahead)
    if (behind, ahead) not in state.bonds:
        raise NotPartners(f"{behind} and {ahead} are no partners")


def check_thing(state, name):
    """Refuses a name that no thing has."""
    if name not in state.things:
        raise NoThing("no thing has the name")


def check_gift(state, number):
    """Refuses a number that no gift of the house has."""
    if number < 0 or number >= len(state.gifts):
        raise NoGift("gifts are numbered from 0 to below their count")


def check_passing(state, name, receiver):
    """Refuses a thing that may not go from its holder to the receiver, whatever fleets and promises are."""
    check_thing(state, name)
    check_person(state, receiver)
    thing = state.things[name]
    holder = thing.holder()
    if (holder, receiver) not in state.bonds and (receiver, holder) not in state.bonds:
        raise NotPartners(f"{holder} and {receiver} are no partners")
    if bond_for(thing.kind, holder, receiver) not in state.bonds:
        raise WrongWay(f"{name} doesn't go from {holder} to {receiver}")


def check_fleet(state, holder, receiver):
    """Refuses a receiver whose island's fleet doesn't lie at the holder's island."""
    if state.fleets.get(state.people[receiver]) != state.people[holder]:
        raise NoFleet(f"the fleet of {receiver} doesn't lie where {holder} lives")


def check_not_for_another(state, name, receiver):
    """Refuses a thing that has a standing promise to somebody else than the receiver."""
    if is_for_another(state, name, receiver):
        raise Promised(f"{name} is promised to somebody else")


def check_last_season(state, last):
    """Refuses a season till which no promise can last."""
    if last < state.now or last > LAST_SEASON:
        raise BadSeason(f"a promise lasts till a season from now on, at most till {LAST_SEASON}")


def check_unpromised(state, name):
    """Refuses a thing that has a standing promise."""
    if standing_promise(state, name) is not None:
        raise Promised(f"{name} is promised")
