"""The gifts of two partners, and which of them answer one another."""

from shellround.errors import BadRank, NoGift
from shellround.names import LEAST_RANK, check_kind, other_kind


class Pairing:
    """Gifts numbered from 0 in the order of their coming, put together two by two."""

    def __init__(self):
        self.kinds = []
        self.ranks = []
        self.mates = []

    def add(self, kind, rank):
        """Puts a gift in, and tells its number."""
        check_kind(kind)
        if rank < LEAST_RANK:
            raise BadRank("a gift has a rank from 1 on")
        number = self.many()
        self.kinds.append(kind)
        self.ranks.append(rank)
        self.mates.append(None)
        self.settle(number)
        return number

    def many(self):
        """How many gifts there are."""
        return len(self.kinds)

    def gift(self, number):
        """A gift's kind and rank."""
        self.check_number(number)
        return (self.kinds[number], self.ranks[number])

    def fits(self, one, other):
        """Whether two gifts could be a pair, whichever is told first."""
        self.check_number(one)
        self.check_number(other)
        return self.can_pair(one, other)

    def mate(self, number):
        """The gift that is paired with one, or None."""
        self.check_number(number)
        return self.mates[number]

    def pairs(self):
        """All pairs, the earlier gift first, by rising earlier ones."""
        return [(number, self.mates[number]) for number in self.settled() if number < self.mates[number]]

    def settled(self):
        """The gifts that are in pairs, rising."""
        return [number for number in range(self.many()) if self.mates[number] is not None]

    def unsettled(self):
        """The gifts that are in no pair, rising."""
        return [number for number in range(self.many()) if self.mates[number] is None]

    def paper(self, kind):
        """Gifts of the kind and all gifts that fit any of them, which show that no fewer of the kind can be left."""
        check_kind(kind)
        left = [number for number in self.unsettled() if self.kinds[number] == kind]
        # All that is come to is in a pair, else one pair more could be made; so the mates are one for each.
        fitting = sorted(self.come_to(left))
        return (sorted(left + [self.mates[number] for number in fitting]), fitting)

    def twin(self):
        """A pairing with the same gifts and pairs."""
        other = Pairing()
        other.kinds = list(self.kinds)
        other.ranks = list(self.ranks)
        other.mates = list(self.mates)
        return other

    def check_number(self, number):
        """Refuses a number that no gift has."""
        if number < 0 or number >= self.many():
            raise NoGift("gifts are numbered from 0 to below their count")

    def can_pair(self, one, other):
        """Whether two gifts fit, both numbers being those of gifts."""
        earlier = min(one, other)
        later = max(one, other)
        return self.kinds[later] == other_kind(self.kinds[earlier]) and self.ranks[later] >= self.ranks[earlier]

    def settle(self, newest):
        """Makes one pair more, with the gift that came last, where that can be."""
        origins = self.come_to([newest])
        # Of the gifts that could be in a pair from now on, the first one has the right to it.
        alone = min([number for number in origins if self.mates[number] is None], default=None)
        while alone is not None:
            one = origins[alone]
            left = self.mates[one]
            self.mates[alone] = one
            self.mates[one] = alone
            alone = left

    def come_to(self, starts):
        """The gifts that fit a start, or the mate of a gift come to, each with the one from which it was come to.

        Pairs along such a way can be changed one by one, and all that are in pairs stay so.
        """
        origins = {}
        waiting = list(starts)
        at = 0
        while at < len(waiting):
            one = waiting[at]
            for other in range(self.many()):
                if other not in origins and self.can_pair(one, other):
                    origins[other] = one
                    if self.mates[other] is not None:
                        waiting.append(self.mates[other])
            at += 1
        return origins
