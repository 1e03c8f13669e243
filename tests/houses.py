"""What the tests of houses have in common."""

import unittest

from shellround.errors import NothingLeft
from shellround.house import House

FIFTY = 10 ** 49 + 7
SIXTY = 10 ** 60 - 1
NO_NAMES = ["", "A", "Ana", "1a", "an a", " ana", "ana ", "ana\n", "a-b", "a_b", "abcdefghijklm", "a" * 40000]


def look(house):
    """All that a house keeps, in values of the asker's own."""
    state = house.state
    return {
        "people": list(state.people.items()),
        "partners": {
            pair: (list(numbers), [numbers[at] for at in pairing.settled()])
            for pair, (pairing, numbers) in state.bonds.items()
        },
        "things": [
            (name, thing.kind, thing.made + thing.steps() // house.islands, thing.holder(), list(thing.line))
            for name, thing in state.things.items()
        ],
        "fleets": dict(state.fleets),
        "gifts": list(state.gifts),
        "promises": list(state.promises),
        "season": state.now,
    }


def do(house, deed):
    """Does a deed that is told as a tuple."""
    return getattr(house, deed[0])(*deed[1:])


def do_all(house, *deeds):
    for deed in deeds:
        do(house, deed)


def till_nothing_is_left(ask):
    told = []
    while True:
        try:
            told.append(ask())
        except NothingLeft:
            return told


def undo_all(house):
    """The deeds that stood, the last one first; none of them stands behind it."""
    return till_nothing_is_left(house.undo)


def redo_all(house):
    """The deeds that could be redone, the next one first; they stand behind it."""
    return till_nothing_is_left(house.redo)


def walked(house):
    """All that a house tells of its deeds and of what it keeps behind each; it is as it was behind this."""
    ahead = redo_all(house)
    back = undo_all(house)
    seen = [look(house)]
    for _ in back:
        house.redo()
        seen.append(look(house))
    undo_all(house)
    for _ in range(len(back) - len(ahead)):
        house.redo()
    return ahead, back, seen


class HouseTest(unittest.TestCase):
    def assert_refused(self, error, word, house, *deed):
        """The deed is refused so, and all is as it was, what can be undone and redone too."""
        with self.subTest(deed=[str(part)[:40] for part in deed]):
            # So that there is something to redo, which a refused deed could forget.
            house.season()
            house.undo()
            before = look(house), walked(house)
            with self.assertRaises(error) as caught:
                do(house, deed)
            self.assertIs(type(caught.exception), error)
            self.assertEqual(caught.exception.word, word)
            self.assertEqual((look(house), walked(house)), before)

    def assert_tells_nothing(self, house, *deed):
        self.assertIsNone(do(house, deed))

    def assert_number(self, told, number):
        self.assertIs(type(told), int)
        self.assertEqual(told, number)


def ring_house(islands=4):
    """One person on each island, a0 on 0 and so on, all neighbours partners, and each fleet at home."""
    house = House(islands)
    for island in range(islands):
        house.person(f"a{island}", island)
    for island in range(islands):
        house.partners(f"a{island}", f"a{(island + 1) % islands}")
    return house
