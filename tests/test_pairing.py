"""Points 7, 8 and 9 and the interface's part on pairings."""

import itertools
import random
import unittest

import putting
from shellround.errors import BadKind, BadRank, NoGift
from shellround.pairing import Pairing

N = "necklace"
A = "armring"
FIFTY = 10 ** 49 + 7
SIXTY = 10 ** 60 - 1
NO_KINDS = ["", "Necklace", "necklaces", "armring ", " armring", "arm ring", "ring", "n", "forward", "armring\n"]


def pairing_of(gifts):
    pairing = Pairing()
    for kind, rank in gifts:
        pairing.add(kind, rank)
    return pairing


def all_told(pairing):
    """All that a pairing tells of itself, in values of the asker's own."""
    numbers = range(pairing.many())
    return {
        "many": pairing.many(),
        "gifts": [pairing.gift(number) for number in numbers],
        "fits": [[pairing.fits(one, other) for other in numbers] for one in numbers],
        "mates": [pairing.mate(number) for number in numbers],
        "pairs": pairing.pairs(),
        "settled": pairing.settled(),
        "unsettled": pairing.unsettled(),
        "papers": [pairing.paper(kind) for kind in (N, A)],
    }


class PairingTest(unittest.TestCase):
    def assert_refused(self, error, word, ask, *handed):
        with self.subTest(ask=ask.__name__, handed=handed):
            with self.assertRaises(error) as caught:
                ask(*handed)
            self.assertIs(type(caught.exception), error)
            self.assertEqual(caught.exception.word, word)

    def assert_pairs_are_sound(self, pairing, gifts):
        """What holds of pairs whichever they are."""
        pairs = pairing.pairs()
        self.assertIs(type(pairs), list)
        for pair in pairs:
            self.assertIs(type(pair), tuple)
            earlier, later = pair
            self.assertLess(earlier, later)
            self.assertTrue(putting.fit(gifts, earlier, later))
            self.assertEqual(pairing.mate(earlier), later)
            self.assertEqual(pairing.mate(later), earlier)
        self.assertTrue(putting.is_rising([earlier for earlier, _ in pairs]))
        inside = [number for pair in pairs for number in pair]
        self.assertEqual(len(inside), len(set(inside)))
        outside = [number for number in range(len(gifts)) if number not in inside]
        self.assertEqual(pairing.settled(), sorted(inside))
        self.assertEqual(pairing.unsettled(), outside)
        for number in outside:
            self.assertIsNone(pairing.mate(number))

    def assert_papers(self, pairing, gifts):
        for kind in (N, A):
            putting.assert_paper(self, gifts, pairing.unsettled(), kind, pairing.paper(kind))

    def assert_grows(self, gifts, settled_of):
        """Puts the gifts in one by one and looks at all behind each; settled_of tells point 8's gifts."""
        pairing = Pairing()
        before = []
        for many, (kind, rank) in enumerate(gifts, start=1):
            self.assertEqual(pairing.add(kind, rank), many - 1)
            come = gifts[:many]
            self.assert_pairs_are_sound(pairing, come)
            self.assert_papers(pairing, come)
            self.assertLessEqual(set(before), set(pairing.settled()))
            self.assertEqual(pairing.settled(), settled_of(come), come)
            before = pairing.settled()
        return pairing


class NoGiftsTest(PairingTest):
    def test_nothing_is_there(self):
        pairing = Pairing()
        self.assertEqual(pairing.many(), 0)
        self.assertEqual(pairing.pairs(), [])
        self.assertEqual(pairing.settled(), [])
        self.assertEqual(pairing.unsettled(), [])
        self.assertEqual(pairing.paper(N), ([], []))
        self.assertEqual(pairing.paper(A), ([], []))
        self.assertEqual(all_told(pairing.twin()), all_told(pairing))

    def test_no_number_is_a_gift(self):
        pairing = Pairing()
        for number in (-1, 0, 1, FIFTY, -FIFTY):
            self.assert_refused(NoGift, "no gift", pairing.gift, number)
            self.assert_refused(NoGift, "no gift", pairing.mate, number)
            self.assert_refused(NoGift, "no gift", pairing.fits, number, number)


class AddTest(PairingTest):
    def test_numbers_rise_from_nought(self):
        pairing = Pairing()
        for number in range(12):
            told = pairing.add((N, A)[number % 3 % 2], 5 + number % 4)
            self.assertIs(type(told), int)
            self.assertEqual(told, number)
            self.assertEqual(pairing.many(), number + 1)

    def test_gifts_are_kept_as_they_came(self):
        gifts = [(N, 1), (A, FIFTY), (A, 2), (N, SIXTY), (N, 1000000), (A, 1000001)]
        pairing = pairing_of(gifts)
        for number, gift in enumerate(gifts):
            self.assertIs(type(pairing.gift(number)), tuple)
            self.assertEqual(pairing.gift(number), gift)

    def test_no_kinds(self):
        for gifts in ([], [(N, 4), (A, 5), (A, 6)]):
            pairing = pairing_of(gifts)
            before = all_told(pairing)
            for kind in NO_KINDS:
                for rank in (1, 5, FIFTY):
                    self.assert_refused(BadKind, "bad kind", pairing.add, kind, rank)
            self.assertEqual(all_told(pairing), before)

    def test_no_ranks(self):
        for gifts in ([], [(N, 4), (A, 5), (A, 6)]):
            pairing = pairing_of(gifts)
            before = all_told(pairing)
            for kind in (N, A):
                for rank in (0, -1, -5, -FIFTY, -SIXTY):
                    self.assert_refused(BadRank, "bad rank", pairing.add, kind, rank)
            self.assertEqual(all_told(pairing), before)
            self.assertEqual(pairing.add(N, 1), len(gifts))

    def test_bad_kind_is_told_ahead_of_bad_rank(self):
        pairing = Pairing()
        for kind in NO_KINDS:
            for rank in (0, -1, -FIFTY):
                self.assert_refused(BadKind, "bad kind", pairing.add, kind, rank)
        self.assertEqual(pairing.many(), 0)

    def test_rank_one_and_ranks_beyond_a_things(self):
        pairing = pairing_of([(N, 1), (A, 1), (N, 1000001), (A, SIXTY)])
        self.assertEqual(pairing.pairs(), [(0, 1), (2, 3)])


class FitsTest(PairingTest):
    def test_a_later_one_is_not_less(self):
        for first, second in ((N, A), (A, N)):
            for rank in (1, 2, 7, 1000000, FIFTY):
                self.assertIs(pairing_of([(first, rank), (second, rank)]).fits(0, 1), True)
                self.assertIs(pairing_of([(first, rank), (second, rank + 1)]).fits(0, 1), True)
                self.assertIs(pairing_of([(first, rank + 1), (second, rank)]).fits(0, 1), False)

    def test_of_unlike_kinds_alone(self):
        for kind in (N, A):
            pairing = pairing_of([(kind, 3), (kind, 3), (kind, 4)])
            for one, other in itertools.product(range(3), repeat=2):
                self.assertIs(pairing.fits(one, other), False)

    def test_either_order_and_a_gift_and_itself(self):
        gifts = [(N, 4), (A, 3), (A, 4), (N, 4), (A, 9), (N, 2), (N, FIFTY), (A, FIFTY)]
        pairing = pairing_of(gifts)
        for one, other in itertools.product(range(len(gifts)), repeat=2):
            self.assertIs(pairing.fits(one, other), putting.fit(gifts, one, other))
            self.assertIs(pairing.fits(one, other), pairing.fits(other, one))
            self.assertIs(pairing.fits(one, one), False)

    def test_it_does_not_matter_what_is_paired(self):
        pairing = pairing_of([(N, 1), (A, 1), (A, 2)])
        self.assertEqual(len(pairing.pairs()), 1)
        self.assertIs(pairing.fits(0, 1), True)
        self.assertIs(pairing.fits(0, 2), True)


class NumbersTest(PairingTest):
    def test_a_number_that_no_gift_has(self):
        for gifts in ([(N, 3)], [(N, 3), (A, 3)], [(N, 3), (A, 3), (A, 5), (N, 5), (N, 1)]):
            pairing = pairing_of(gifts)
            many = len(gifts)
            for number in (-1, -2, -many, -many - 1, many, many + 1, many + 100, FIFTY, -FIFTY, SIXTY):
                self.assert_refused(NoGift, "no gift", pairing.gift, number)
                self.assert_refused(NoGift, "no gift", pairing.mate, number)
                self.assert_refused(NoGift, "no gift", pairing.fits, number, 0)
                self.assert_refused(NoGift, "no gift", pairing.fits, 0, number)
                self.assert_refused(NoGift, "no gift", pairing.fits, number, many - 1)
                self.assert_refused(NoGift, "no gift", pairing.fits, many - 1, number)
                self.assert_refused(NoGift, "no gift", pairing.fits, number, number)

    def test_the_last_gift_is_one(self):
        pairing = pairing_of([(N, 3), (A, 2)])
        self.assertEqual(pairing.gift(1), (A, 2))
        self.assertIsNone(pairing.mate(1))
        self.assertIs(pairing.fits(1, 0), False)


class OneKindTest(PairingTest):
    def test_none_is_in_a_pair(self):
        for kind, other in ((N, A), (A, N)):
            for ranks in ([5, 5, 5, 5], [9, 7, 5, 3, 1], [1, 2, 3, 4, 5], [1], [FIFTY, 1, FIFTY]):
                gifts = [(kind, rank) for rank in ranks]
                pairing = self.assert_grows(gifts, lambda come: [])
                numbers = list(range(len(ranks)))
                self.assertEqual(pairing.unsettled(), numbers)
                self.assertEqual(pairing.pairs(), [])
                self.assertEqual(pairing.paper(kind), (numbers, []))
                self.assertEqual(pairing.paper(other), ([], []))


class OrdersTest(PairingTest):
    def test_equal_ranks(self):
        for rank in (1, 6, FIFTY):
            gifts = [(kind, rank) for kind in (N, N, A, A, A, N, A, N)]
            pairing = self.assert_grows(gifts, putting.settled_by_all_ways)
            self.assertEqual(pairing.unsettled(), [])

    def test_falling_ranks(self):
        gifts = [((N, A)[number % 2], 20 - number) for number in range(8)]
        pairing = self.assert_grows(gifts, putting.settled_by_all_ways)
        self.assertEqual(pairing.pairs(), [])

    def test_rising_ranks(self):
        for start in (1, 10, FIFTY):
            gifts = [((N, A)[number // 2 % 2], start + number) for number in range(8)]
            pairing = self.assert_grows(gifts, putting.settled_by_all_ways)
            self.assertEqual(len(pairing.pairs()), 4)

    def test_earlier_pairs_are_changed_for_one_pair_more(self):
        # The arm ring of 5 could answer either necklace, the one of 3 only the lesser.
        pairing = self.assert_grows([(N, 3), (N, 5), (A, 5), (A, 3)], putting.settled_by_all_ways)
        self.assertEqual(pairing.pairs(), [(0, 3), (1, 2)])
        # A long way: each newcomer's place is held by another.
        gifts = [(N, 1), (N, 2), (N, 3), (N, 4), (A, 4), (A, 3), (A, 2), (A, 1)]
        pairing = self.assert_grows(gifts, putting.settled_by_all_ways)
        self.assertEqual(pairing.pairs(), [(0, 7), (1, 6), (2, 5), (3, 4)])

    def test_the_first_one_has_the_right(self):
        # One arm ring could answer any of three necklaces; the first one is answered, be it great or small.
        for ranks in itertools.permutations([2, 4, 6]):
            pairing = pairing_of([(N, rank) for rank in ranks] + [(A, 6)])
            self.assertEqual(pairing.pairs(), [(0, 3)])
        pairing = pairing_of([(N, 9), (N, 5), (N, 4), (A, 5)])
        self.assertEqual(pairing.pairs(), [(1, 3)])
        # The last necklace fits the last arm ring, but an earlier one can come in where another pair is changed.
        pairing = pairing_of([(N, 5), (A, 6), (A, 7), (A, 1), (N, 6)])
        self.assertEqual(pairing.pairs(), [(0, 2), (1, 4)])

    def test_one_more_than_can_be(self):
        pairing = pairing_of([(N, 5), (A, 5), (A, 8)])
        self.assertEqual(pairing.settled(), [0, 1])
        self.assertEqual(pairing.unsettled(), [2])


class AllWaysTest(PairingTest):
    def test_all_orders_of_up_to_five_gifts(self):
        choices = [(kind, rank) for kind in (N, A) for rank in (1, 2, 3)]
        known = {}

        def settled_of(come):
            key = tuple(come)
            if key not in known:
                known[key] = putting.settled_by_all_ways(come)
            return known[key]

        for gifts in itertools.product(choices, repeat=5):
            if gifts[0][0] == N:
                self.assert_grows(list(gifts), settled_of)

    def test_many_orders_of_eight_gifts(self):
        chance = random.Random(8)
        for run in range(400):
            top = (2, 4, 8, 40)[run % 4]
            gifts = [(chance.choice((N, A)), chance.randint(1, top) + run % 2 * FIFTY) for _ in range(8)]
            pairing = self.assert_grows(gifts, putting.settled_by_all_ways)
            self.assertEqual(len(pairing.pairs()), putting.most_pairs_by_all_ways(gifts))

    def test_half_necklaces_and_half_arm_rings(self):
        chance = random.Random(88)
        for _ in range(300):
            kinds = [N] * 4 + [A] * 4
            ranks = list(range(1, 9))
            chance.shuffle(kinds)
            chance.shuffle(ranks)
            gifts = list(zip(kinds, ranks))
            pairing = self.assert_grows(gifts, putting.settled_by_all_ways)
            self.assertEqual(len(pairing.pairs()), putting.most_pairs_by_all_ways(gifts))

    def test_the_two_slow_ways_agree(self):
        chance = random.Random(888)
        for _ in range(200):
            gifts = [(chance.choice((N, A)), chance.randint(1, 5)) for _ in range(chance.randint(0, 8))]
            self.assertEqual(putting.settled(gifts), putting.settled_by_all_ways(gifts))


class PaperTest(PairingTest):
    def test_no_kinds(self):
        for gifts in ([], [(N, 4), (A, 5), (A, 6)]):
            pairing = pairing_of(gifts)
            for kind in NO_KINDS:
                self.assert_refused(BadKind, "bad kind", pairing.paper, kind)

    def test_nobody_left(self):
        gifts = [(N, 4), (A, 5), (A, 6), (N, 7)]
        pairing = pairing_of(gifts)
        self.assertEqual(pairing.unsettled(), [])
        self.assert_papers(pairing, gifts)

    def test_one_left_whom_nothing_fits(self):
        gifts = [(N, 4), (A, 3)]
        pairing = pairing_of(gifts)
        self.assertEqual(pairing.paper(N), ([0], []))
        self.assertEqual(pairing.paper(A), ([1], []))

    def test_rivals_for_the_same(self):
        gifts = [(N, 4), (N, 4), (A, 5)]
        pairing = pairing_of(gifts)
        self.assertEqual(pairing.paper(N), ([0, 1], [2]))
        self.assert_papers(pairing, gifts)


class HundredTest(PairingTest):
    def gifts(self, seed, top):
        chance = random.Random(seed)
        return [(chance.choice((N, A)), chance.randint(1, top)) for _ in range(100)]

    def test_a_hundred_gifts(self):
        for seed, top in ((1, 10), (2, 1000), (3, SIXTY)):
            gifts = self.gifts(seed, top)
            pairing = pairing_of(gifts)
            self.assertEqual(pairing.many(), 100)
            self.assert_pairs_are_sound(pairing, gifts)
            self.assert_papers(pairing, gifts)
            self.assertEqual(pairing.settled(), putting.settled(gifts))

    def test_who_is_in_a_pair_stays_so(self):
        gifts = self.gifts(4, 60)
        pairing = Pairing()
        before = set()
        for many, (kind, rank) in enumerate(gifts, start=1):
            pairing.add(kind, rank)
            self.assertLessEqual(before, set(pairing.settled()))
            before = set(pairing.settled())
            self.assert_pairs_are_sound(pairing, gifts[:many])
            self.assert_papers(pairing, gifts[:many])

    def test_fifty_each_where_each_newcomer_has_to_make_room(self):
        gifts = [(N, rank) for rank in range(1, 51)] + [(A, rank) for rank in range(50, 0, -1)]
        pairing = pairing_of(gifts)
        self.assertEqual(pairing.pairs(), [(number, 99 - number) for number in range(50)])

    def test_somewhat_more_than_a_hundred(self):
        pairing = pairing_of([(N, 3)] * 60 + [(A, 3)] * 60)
        self.assertEqual(pairing.unsettled(), [])


class OwnTest(PairingTest):
    GIFTS = [(N, 4), (A, 5), (A, 2), (N, 3), (N, 8), (A, 1)]

    def test_changed_lists_change_no_later_answer(self):
        pairing = pairing_of(self.GIFTS)
        before = all_told(pairing)
        for told in (pairing.pairs(), pairing.settled(), pairing.unsettled(), *pairing.paper(N), *pairing.paper(A)):
            told.append(7)
            told.reverse()
            del told[1:]
        self.assertEqual(all_told(pairing), before)
        pairing.add(N, 9)
        self.assertEqual(all_told(pairing), all_told(pairing_of(self.GIFTS + [(N, 9)])))

    def test_asking_changes_nothing(self):
        pairing = pairing_of(self.GIFTS)
        before = all_told(pairing)
        self.assertEqual(all_told(pairing), before)

    def test_a_twin_has_the_same(self):
        for many in range(len(self.GIFTS) + 1):
            pairing = pairing_of(self.GIFTS[:many])
            twin = pairing.twin()
            self.assertIs(type(twin), Pairing)
            self.assertIsNot(twin, pairing)
            self.assertEqual(all_told(twin), all_told(pairing))

    def test_a_twin_and_its_first_one_part(self):
        for more in [(N, 9), (A, 9), (N, 1), (A, 1), (A, 4)]:
            pairing = pairing_of(self.GIFTS)
            twin = pairing.twin()
            before = all_told(pairing)
            grown = all_told(pairing_of(self.GIFTS + [more]))
            twin.add(*more)
            self.assertEqual(all_told(pairing), before)
            self.assertEqual(all_told(twin), grown)

            twin = pairing.twin()
            pairing.add(*more)
            self.assertEqual(all_told(twin), before)
            self.assertEqual(all_told(pairing), grown)

    def test_a_twin_of_a_twin(self):
        pairing = pairing_of([(N, 2)])
        twin = pairing.twin()
        third = twin.twin()
        third.add(A, 2)
        self.assertEqual(pairing.unsettled(), [0])
        self.assertEqual(twin.unsettled(), [0])
        self.assertEqual(third.unsettled(), [])

    def test_pairings_have_nothing_to_do_with_one_another(self):
        one, other = Pairing(), Pairing()
        one.add(N, 5)
        self.assertEqual(other.many(), 0)
        self.assertEqual(other.add(A, 6), 0)
        self.assertEqual(one.pairs(), [])


if __name__ == "__main__":
    unittest.main()
