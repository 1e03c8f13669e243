"""What the tests of houses have in common."""

import copy
import unittest

from shellround import asks
from shellround.errors import NothingLeft, RoundError
from shellround.house import House

FIFTY = 10 ** 49 + 7
SIXTY = 10 ** 60 - 1
NO_NAMES = ["", "A", "Ana", "1a", "an a", " ana", "ana ", "ana\n", "a-b", "a_b", "abcdefghijklm", "a" * 40000]


def look(house):
    """All that a house tells of what it keeps, but what is told of its deeds."""
    return {
        "people": [(name, asks.island_of(house, name)) for name in asks.people(house)],
        "partners": {
            (name, ahead): (asks.gifts_between(house, name, ahead), settled(house, name, ahead))
            for name in asks.people(house) for ahead in asks.partners_of(house, name)[1]
        },
        "things": [
            (name, *asks.thing_of(house, name), asks.line_of(house, name)) for name in asks.things(house)
        ],
        "fleets": dict(asks.fleets(house)),
        "gifts": asks.gifts(house),
        "promises": asks.vows(house),
        "season": asks.season_now(house),
    }


def settled(house, behind, ahead):
    """The numbers of two partners' gifts that are in pairs, rising."""
    return sorted(number for pair in asks.answers(house, behind, ahead) for number in pair)


def asked_twice(test, ask):
    """What is told, the second time; all lists in what was told first are changed ahead of that."""
    first = ask()
    kept = copy.deepcopy(first)
    spoil(first)
    second = ask()
    test.assertEqual(second, kept)
    return second


def spoil(told):
    """Turns about each list in what was told, and gives it one more."""
    if isinstance(told, (list, tuple)):
        for part in told:
            spoil(part)
    if isinstance(told, list):
        told.reverse()
        told.append("more")


def do(house, deed):
    """Does a deed that is told as a tuple."""
    return getattr(house, deed[0])(*deed[1:])


def ended(ask):
    """How something ends: with what it told, or with the refusal's class and word."""
    try:
        return ("told", ask())
    except RoundError as refusal:
        return (type(refusal), refusal.word)


def do_all(house, *deeds):
    for deed in deeds:
        do(house, deed)


def till_nothing_is_left(ask):
    told = []
    while True:
        try:
            told.append(ask())
        except NothingLeft:
            return told


def undo_all(house):
    """The deeds that stood, the last one first; none of them stands behind it."""
    return till_nothing_is_left(house.undo)


def redo_all(house):
    """The deeds that could be redone, the next one first; they stand behind it."""
    return till_nothing_is_left(house.redo)


def walked(house):
    """All that a house tells of its deeds and of what it keeps behind each; it is as it was behind this."""
    ahead = redo_all(house)
    back = undo_all(house)
    seen = [look(house)]
    for _ in back:
        house.redo()
        seen.append(look(house))
    undo_all(house)
    for _ in range(len(back) - len(ahead)):
        house.redo()
    return ahead, back, seen


class HouseTest(unittest.TestCase):
    def assert_refused(self, error, word, house, *deed):
        """The deed is refused so, and all is as it was, what can be undone and redone too."""
        with self.subTest(deed=[str(part)[:40] for part in deed]):
            # So that there is something to redo, which a refused deed could forget.
            house.season()
            house.undo()
            before = look(house), walked(house)
            with self.assertRaises(error) as caught:
                do(house, deed)
            self.assertIs(type(caught.exception), error)
            self.assertEqual(caught.exception.word, word)
            self.assertEqual((look(house), walked(house)), before)

    def assert_tells_nothing(self, house, *deed):
        self.assertIsNone(do(house, deed))

    def assert_number(self, told, number):
        self.assertIs(type(told), int)
        self.assertEqual(told, number)


def ring_house(islands=4):
    """One person on each island, a0 on 0 and so on, all neighbours partners, and each fleet at home."""
    house = House(islands)
    for island in range(islands):
        house.person(f"a{island}", island)
    for island in range(islands):
        house.partners(f"a{island}", f"a{(island + 1) % islands}")
    return house
