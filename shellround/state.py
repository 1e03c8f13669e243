"""What a house keeps at one time.

No state, and nothing in it, is changed once a house has it: a deed makes a twin and puts new dicts and tuples there.
So an undoing only has to take the earlier state again.
"""

from shellround.names import NECKLACE
from shellround.ring import rounds_in

STANDING = "standing"
KEPT = "kept"
BROKEN = "broken"


class Thing:
    """A thing with its line: pairs (season, name) of those who had it."""

    def __init__(self, kind, made, line):
        self.kind = kind
        self.made = made
        self.line = line

    def holder(self):
        """In whose hands it is."""
        return self.line[-1][1]

    def steps(self):
        """How often it was given."""
        return len(self.line) - 1

    def passed(self, now, receiver):
        """The thing as it is once the receiver has it."""
        return Thing(self.kind, self.made, self.line + ((now, receiver),))


class State:
    """People, partners, things, fleets, gifts, promises and the season."""

    def __init__(self):
        # Names with their islands, in the order of their coming.
        self.people = {}
        # Pairs (behind, ahead) with a pairing and the tuple of its gifts' numbers in the house.
        self.bonds = {}
        # Names with a Thing each, in the order of their making.
        self.things = {}
        # Islands with the island at which their fleet lies, those alone whose fleet is away.
        self.fleets = {}
        # Rows by their numbers.
        self.gifts = ()
        self.promises = ()
        self.now = 0

    def twin(self):
        """A state that keeps the same."""
        other = State()
        other.people = self.people
        other.bonds = self.bonds
        other.things = self.things
        other.fleets = self.fleets
        other.gifts = self.gifts
        other.promises = self.promises
        other.now = self.now
        return other


def with_row(rows, key, value):
    """A dict with the same rows, but with the value by the key."""
    changed = dict(rows)
    changed[key] = value
    return changed


def without_row(rows, key):
    """A dict with the same rows but the key's."""
    changed = dict(rows)
    del changed[key]
    return changed


def bond_for(kind, giver, receiver):
    """The partners (behind, ahead) whom two have to be so that a thing of the kind goes from the one to the other."""
    return (giver, receiver) if kind == NECKLACE else (receiver, giver)


def rank_now(islands, thing):
    """The rank with which a thing was made, and one more for each whole round."""
    return thing.made + rounds_in(islands, thing.steps())


def standing_promise(state, name):
    """The number of the standing promise of a thing, or None."""
    for number, (thing, maker, receiver, last, how) in enumerate(state.promises):
        if thing == name and how == STANDING:
            return number
    return None


def is_for_another(state, name, receiver):
    """Whether a thing has a standing promise to somebody else than the receiver."""
    number = standing_promise(state, name)
    return number is not None and state.promises[number][2] != receiver


def with_promise_kept(promises, number):
    """The promises, the one of the number being kept; the same ones where it is None."""
    if number is None:
        return promises
    thing, maker, receiver, last, how = promises[number]
    return promises[:number] + ((thing, maker, receiver, last, KEPT),) + promises[number + 1:]


def with_past_broken(promises, now):
    """The promises, those that stand but whose last season is past being broken."""
    rows = []
    for thing, maker, receiver, last, how in promises:
        past = how == STANDING and last < now
        rows.append((thing, maker, receiver, last, BROKEN if past else how))
    return tuple(rows)
