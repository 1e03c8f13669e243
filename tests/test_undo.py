"""Point 16, and points 4 and 18 for the tuple of a deed."""

import unittest

from houses import HouseTest, do, do_all, look, redo_all, ring_house, undo_all
from shellround.errors import NothingLeft, RoundError
from shellround.house import House

# Each deed at least once, promises that are kept and broken, and partners that part and become so again.
DEEDS = [
    ("person", "ana", 0), ("person", "bo", 1), ("person", "cy", 1), ("person", "di", 2), ("partners", "ana", "bo"),
    ("partners", "ana", "cy"), ("partners", "bo", "di"), ("make", "shell", "necklace", 5, "ana"), ("season",),
    ("make", "band", "armring", 5, "bo"), ("make", "comb", "necklace", 1000000, "ana"), ("sail", 1, "backward"),
    ("vow", "shell", "bo", 3), ("vow", "comb", "cy", 1), ("give", "shell", "bo"), ("season",), ("sail", 0, "forward"),
    ("give", "band", "ana"), ("give", "comb", "cy"), ("part", "ana", "bo"), ("home", 1), ("sail", 1, "forward"),
    ("partners", "ana", "bo"), ("vow", "shell", "di", 1000000), ("home", 0), ("season",), ("person", "shell", 2),
]


class UndoTest(HouseTest):
    def assert_nothing_left(self, house, *words):
        for word in words:
            before = look(house)
            with self.assertRaises(NothingLeft) as caught:
                do(house, (word,))
            self.assertIs(type(caught.exception), NothingLeft)
            self.assertEqual(caught.exception.word, "nothing left")
            self.assertEqual(look(house), before)

    def test_nothing_at_first(self):
        for islands in (3, 20):
            self.assert_nothing_left(House(islands), "undo", "redo", "redo", "undo")

    def test_down_to_nothing_and_up_again(self):
        house = House(3)
        seen = [look(house)]
        for deed in DEEDS:
            do(house, deed)
            seen.append(look(house))
        for _ in range(2):
            self.assert_nothing_left(house, "redo")
            for number in reversed(range(len(DEEDS))):
                told = house.undo()
                self.assertIs(type(told), tuple)
                self.assertEqual(told, DEEDS[number])
                self.assertEqual(look(house), seen[number])
            self.assert_nothing_left(house, "undo")
            for number, deed in enumerate(DEEDS, start=1):
                told = house.redo()
                self.assertIs(type(told), tuple)
                self.assertEqual(told, deed)
                self.assertEqual(look(house), seen[number])

    def test_each_deed_undone_and_done_anew(self):
        house = House(3)
        for deed in DEEDS:
            before = look(house)
            first = do(house, deed)
            after = look(house)
            self.assertNotEqual(after, before)
            self.assertEqual(house.undo(), deed)
            self.assertEqual(look(house), before)
            # Done anew it tells the same: numbers are not used up by what was undone.
            self.assertEqual(do(house, deed), first)
            self.assertEqual(look(house), after)
            self.assert_nothing_left(house, "redo")

    def test_all_deeds_behind_each_undoing(self):
        # From the very first state on all deeds can be done as if nothing had been.
        house = House(3)
        do_all(house, *DEEDS)
        last = look(house)
        undo_all(house)
        do_all(house, *DEEDS)
        self.assertEqual(look(house), last)
        self.assertEqual(undo_all(house), DEEDS[::-1])

    def test_a_new_deed_forgets_what_could_be_redone(self):
        for deed in (("season",), ("person", "eve", 2), ("sail", 2, "forward"), DEEDS[-1]):
            house = House(3)
            do_all(house, *DEEDS)
            for _ in range(3):
                house.undo()
            do(house, deed)
            self.assert_nothing_left(house, "redo")
            self.assertEqual(house.undo(), deed)
            # What was forgotten stays so; only the new deed can be redone.
            self.assertEqual(redo_all(house), [deed])
            self.assertEqual(undo_all(house), [deed] + DEEDS[-4::-1])

    def test_the_undone_last_is_redone_first(self):
        house = House(3)
        do_all(house, ("person", "ana", 0), ("person", "bo", 1), ("season",))
        self.assertEqual([house.undo(), house.undo()], [("season",), ("person", "bo", 1)])
        self.assertEqual(house.redo(), ("person", "bo", 1))
        self.assertEqual(house.undo(), ("person", "bo", 1))
        self.assertEqual([house.redo(), house.redo()], [("person", "bo", 1), ("season",)])

    def test_a_refused_deed_is_none(self):
        house = House(3)
        do_all(house, *DEEDS)
        # Behind ("partners", "ana", "bo") for the second time, with the shell in bo's hands.
        for _ in range(4):
            house.undo()
        before = look(house)
        for deed in (
            ("person", "Ana", 0), ("person", "ana", 0), ("person", "eve", 3), ("partners", "ana", "eve"),
            ("partners", "ana", "di"), ("partners", "ana", "bo"), ("part", "ana", "eve"), ("part", "bo", "ana"),
            ("part", "ana", "cy"), ("make", "Shell", "necklace", 1, "ana"), ("make", "shell", "necklace", 1, "ana"),
            ("make", "new", "ring", 1, "ana"), ("make", "new", "necklace", 0, "ana"),
            ("make", "new", "necklace", 1, "eve"), ("sail", 3, "forward"), ("sail", 0, "back"), ("sail", 0, "forward"),
            ("home", -1), ("home", 2), ("give", "new", "bo"), ("give", "shell", "eve"), ("give", "shell", "cy"),
            ("give", "shell", "ana"), ("give", "shell", "di"), ("vow", "shell", "di", 0), ("vow", "shell", "ana", 9),
        ):
            with self.subTest(deed), self.assertRaises(RoundError):
                do(house, deed)
            self.assertEqual(look(house), before)
        self.assertEqual(redo_all(house), DEEDS[-4:])
        self.assertEqual(undo_all(house), DEEDS[::-1])

    def test_a_refused_undoing_forgets_nothing(self):
        house = House(3)
        do_all(house, *DEEDS[:6])
        undo_all(house)
        self.assert_nothing_left(house, "undo", "undo")
        self.assertEqual(redo_all(house), DEEDS[:6])
        self.assert_nothing_left(house, "redo", "redo")
        self.assertEqual(undo_all(house), DEEDS[5::-1])

    def test_an_undone_gift_is_out_of_the_pairing(self):
        house = ring_house()
        do_all(
            house, ("sail", 1, "backward"), ("sail", 0, "forward"), ("make", "shell", "necklace", 5, "a0"),
            ("make", "band", "armring", 5, "a1"), ("give", "shell", "a1"), ("vow", "band", "a0", 4),
        )
        before = look(house)
        for _ in range(3):
            self.assertEqual(house.give("band", "a0"), 1)
            self.assertEqual(look(house)["partners"][("a0", "a1")], ([0, 1], [0, 1]))
            self.assertEqual(look(house)["promises"], [("band", "a1", "a0", 4, "kept")])
            house.part("a0", "a1")
            house.undo()
            self.assertEqual(look(house)["partners"][("a0", "a1")], ([0, 1], [0, 1]))
            house.undo()
            self.assertEqual(look(house), before)
            self.assertEqual(look(house)["promises"], [("band", "a1", "a0", 4, "standing")])

    def test_a_thousand_deeds(self):
        house = ring_house(3)
        do_all(house, ("make", "shell", "necklace", 1, "a0"), *[("sail", island, "backward") for island in range(3)])
        first = look(house)
        # No two partners get more than a hundred gifts by it.
        deeds = [("give", "shell", f"a{(number + 1) % 3}") for number in range(300)]
        deeds += [("home", 1), ("sail", 1, "forward"), ("season",), ("season",)] * 172
        do_all(house, *deeds)
        last = look(house)
        for deed in reversed(deeds):
            self.assertEqual(house.undo(), deed)
        self.assertEqual(look(house), first)
        self.assertEqual(redo_all(house), deeds)
        self.assertEqual(look(house), last)


if __name__ == "__main__":
    unittest.main()
