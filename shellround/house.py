"""A house: the people, partners, things, gifts, promises and fleets of one ring, and the deeds that change them."""

from shellround.checks import (
    check_fleet, check_last_season, check_neighbours, check_new_name, check_not_for_another, check_partners,
    check_passing, check_person, check_unpromised,
)
from shellround.errors import Away, BadRank, NotAway, NothingLeft, Owing, Twice
from shellround.names import FORWARD, check_kind, check_way, is_rank
from shellround.pairing import Pairing
from shellround.ring import check_island, check_ring, onward
from shellround.state import (
    STANDING, State, Thing, bond_for, rank_now, standing_promise, with_past_broken, with_promise_kept, with_row,
    without_row,
)


def with_gift(islands, state, name, receiver):
    """The state in which the thing is given and stands behind the partners' earlier gifts."""
    thing = state.things[name]
    giver = thing.holder()
    number = len(state.gifts)
    rank = rank_now(islands, thing)
    bond = bond_for(thing.kind, giver, receiver)
    earlier, numbers = state.bonds[bond]
    # The earlier state keeps its pairing as it was.
    pairing = earlier.twin()
    pairing.add(thing.kind, rank)
    after = state.twin()
    after.bonds = with_row(state.bonds, bond, (pairing, numbers + (number,)))
    after.gifts = state.gifts + ((number, name, giver, receiver, state.now, rank),)
    after.things = with_row(state.things, name, thing.passed(state.now, receiver))
    after.promises = with_promise_kept(state.promises, standing_promise(state, name))
    return after


def with_next_season(state):
    """The state in which the season is the next one, and what stands but is past is broken."""
    after = state.twin()
    after.now = state.now + 1
    after.promises = with_past_broken(state.promises, after.now)
    return after


class House:
    """What is kept of one ring, with the deeds that stand and those that were undone."""

    def __init__(self, islands):
        check_ring(islands)
        self.islands = islands
        self.state = State()
        # Pairs of a deed and the state ahead of it, the last deed last.
        self.stood = []
        # Pairs of a deed and the state behind it, the one that is redone next last.
        self.undone = []

    def person(self, name, island):
        """Somebody comes, to live on the island."""
        check_new_name(self.state.people, name)
        check_island(self.islands, island)
        after = self.state.twin()
        after.people = with_row(after.people, name, island)
        self.stand(("person", name, island), after)

    def partners(self, behind, ahead):
        """Two become partners, without gifts."""
        check_person(self.state, behind)
        check_person(self.state, ahead)
        check_neighbours(self.islands, self.state, behind, ahead)
        if (behind, ahead) in self.state.bonds:
            raise Twice(f"{behind} and {ahead} are partners")
        after = self.state.twin()
        after.bonds = with_row(after.bonds, (behind, ahead), (Pairing(), ()))
        self.stand(("partners", behind, ahead), after)

    def part(self, behind, ahead):
        """Two partners part who owe one another nothing."""
        check_partners(self.state, behind, ahead)
        pairing, numbers = self.state.bonds[(behind, ahead)]
        if pairing.unsettled() != []:
            raise Owing(f"a gift between {behind} and {ahead} is not answered")
        after = self.state.twin()
        after.bonds = without_row(after.bonds, (behind, ahead))
        self.stand(("part", behind, ahead), after)

    def make(self, thing, kind, rank, holder):
        """A thing is made in the holder's hands."""
        check_new_name(self.state.things, thing)
        check_kind(kind)
        if not is_rank(rank):
            raise BadRank("a thing can't be made with the rank")
        check_person(self.state, holder)
        after = self.state.twin()
        after.things = with_row(after.things, thing, Thing(kind, rank, ((after.now, holder),)))
        self.stand(("make", thing, kind, rank, holder), after)

    def sail(self, island, way):
        """An island's fleet sails to the neighbouring island."""
        check_island(self.islands, island)
        check_way(way)
        if island in self.state.fleets:
            raise Away(f"the fleet of island {island} is away")
        after = self.state.twin()
        after.fleets = with_row(after.fleets, island, onward(self.islands, island, 1 if way == FORWARD else -1))
        self.stand(("sail", island, way), after)

    def home(self, island):
        """An island's fleet comes home."""
        check_island(self.islands, island)
        if island not in self.state.fleets:
            raise NotAway(f"the fleet of island {island} is at home")
        after = self.state.twin()
        after.fleets = without_row(after.fleets, island)
        self.stand(("home", island), after)

    def give(self, thing, receiver):
        """A thing's holder gives it to the receiver; the gift's number."""
        check_passing(self.state, thing, receiver)
        check_fleet(self.state, self.state.things[thing].holder(), receiver)
        check_not_for_another(self.state, thing, receiver)
        number = len(self.state.gifts)
        self.stand(("give", thing, receiver), with_gift(self.islands, self.state, thing, receiver))
        return number

    def vow(self, thing, receiver, last):
        """A thing's holder promises it to the receiver, till the end of the last season; the promise's number."""
        check_passing(self.state, thing, receiver)
        check_last_season(self.state, last)
        check_unpromised(self.state, thing)
        number = len(self.state.promises)
        maker = self.state.things[thing].holder()
        after = self.state.twin()
        after.promises = after.promises + ((thing, maker, receiver, last, STANDING),)
        self.stand(("vow", thing, receiver, last), after)
        return number

    def season(self):
        """The season ends; the new one's number."""
        self.stand(("season",), with_next_season(self.state))
        return self.state.now

    def undo(self):
        """Brings all back to what it was ahead of the last deed that stands; that deed."""
        if self.stood == []:
            raise NothingLeft("no deed stands")
        deed, before = self.stood.pop()
        self.undone.append((deed, self.state))
        self.state = before
        return deed

    def redo(self):
        """Does the deed again that was undone last; that deed."""
        if self.undone == []:
            raise NothingLeft("no deed was undone since the last one was done")
        deed, after = self.undone.pop()
        self.stood.append((deed, self.state))
        self.state = after
        return deed

    def stand(self, deed, after):
        """Takes the state behind a deed that nothing refuses, and forgets what could be redone."""
        self.stood.append((deed, self.state))
        self.undone = []
        self.state = after
