"""Points 7, 8 and 9 in their own words, told the slow way: what the tests hold pairings against.

Gifts are a list of pairs (kind, rank) in the order of their coming.
"""

KINDS = ("necklace", "armring")


def other_of(kind):
    return KINDS[1 - KINDS.index(kind)]


def fit(gifts, one, other):
    (kind, rank), (later_kind, later_rank) = gifts[min(one, other)], gifts[max(one, other)]
    return kind != later_kind and later_rank >= rank


def of_kind(gifts, kind):
    return [number for number, gift in enumerate(gifts) if gift[0] == kind]


def fitting(gifts, number):
    return [other for other in range(len(gifts)) if fit(gifts, number, other)]


def all_ways(gifts, number=0, taken=()):
    """The gifts in pairs of every putting together, as sets; for few gifts only."""
    if number == len(gifts):
        yield frozenset(taken)
        return
    yield from all_ways(gifts, number + 1, taken)
    if number not in taken:
        for other in range(number + 1, len(gifts)):
            if other not in taken and fit(gifts, number, other):
                yield from all_ways(gifts, number + 1, taken + (number, other))


def chosen(gifts, kind, can_be):
    """Point 8 for one kind; can_be tells whether a list of its gifts can be in pairs all at once."""
    found = []
    for number in of_kind(gifts, kind):
        if can_be(found + [number]):
            found.append(number)
    return found


def settled_by_all_ways(gifts):
    ways = list(all_ways(gifts))
    found = []
    for kind in KINDS:
        found += chosen(gifts, kind, lambda wanted: any(way.issuperset(wanted) for way in ways))
    return sorted(found)


def most_pairs_by_all_ways(gifts):
    return max(len(way) for way in all_ways(gifts)) // 2


def can_all_be(gifts, wanted):
    """Whether gifts of one kind can be in pairs all at once, each trying to take a place, others making room."""
    held = {}

    def takes(number, asked):
        for other in fitting(gifts, number):
            if other not in asked:
                asked.add(other)
                if other not in held or takes(held[other], asked):
                    held[other] = number
                    return True
        return False

    return all(takes(number, set()) for number in wanted)


def settled(gifts):
    """Point 8 for any count of gifts."""
    return sorted(
        number for kind in KINDS for number in chosen(gifts, kind, lambda wanted: can_all_be(gifts, wanted))
    )


def is_rising(numbers):
    return all(one < other for one, other in zip(numbers, numbers[1:]))


def assert_paper(test, gifts, left, kind, paper):
    """Point 9; left are all gifts in no pair, of both kinds."""
    test.assertIs(type(paper), tuple)
    first, second = paper
    test.assertIs(type(first), list)
    test.assertIs(type(second), list)
    test.assertTrue(is_rising(first))
    test.assertTrue(is_rising(second))
    test.assertLessEqual(set(first), set(of_kind(gifts, kind)))
    alone = set(left) & set(of_kind(gifts, kind))
    test.assertLessEqual(alone, set(first))
    test.assertEqual(set(second), {other for number in first for other in fitting(gifts, number)})
    test.assertEqual(len(first) - len(second), len(alone))
