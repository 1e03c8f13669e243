"""Point 20 and the interface's part on the desk."""

import random
import unittest

import asked
import plain
from houses import FIFTY, SIXTY, ended, look
from runs import Story, acts_of_a_run
from shellround import asks, errors
from shellround.desk import Desk
from shellround.house import House
from shellround.notes import written

BAD_TEXT = "no: bad text"
FIRST_ROWS = [
    "person ana 0", "person bo 1", "person cy 2", "person di 1", "partners ana bo", "partners bo cy", "partners ana di",
    "make shell necklace 5 ana", "make band armring 4 bo", "make cuff armring 5 bo",
]
NO_NAMES = ["", "Ana", "ANA", "9a", "0", "abcdefghijklm", "a-b", "a_b", "ana\n", "\nana", "-", "a" * 40000]


def trading_desk():
    desk = Desk(3)
    for row in FIRST_ROWS:
        assert desk.say(row) == "done", row
    return desk


class DeskTest(unittest.TestCase):
    def assert_said(self, desk, *rows):
        """Pairs of a row and its answer."""
        for row, answer in rows:
            found = desk.say(row)
            self.assertIs(type(found), str)
            self.assertEqual(found, answer, row[:60])

    def assert_changes_nothing(self, desk, answer, *rows):
        """So are the rows answered, and all is as it was, what can be undone and redone too."""
        before = look(desk.house), asks.deeds(desk.house), asks.undone(desk.house)
        for row in rows:
            with self.subTest(row[:60]):
                self.assert_said(desk, (row, answer))
                self.assertEqual((look(desk.house), asks.deeds(desk.house), asks.undone(desk.house)), before)


class MakingTest(DeskTest):
    def test_counts_of_islands_that_no_ring_has(self):
        for islands in (2, 1, 0, -1, 21, 100, FIFTY, -FIFTY, SIXTY):
            self.assertEqual(ended(lambda: Desk(islands)), (errors.BadRing, "bad ring"))

    def test_the_house_is_the_very_one(self):
        for islands in (3, 20):
            desk = Desk(islands)
            house = desk.house
            self.assertIs(type(house), House)
            self.assertEqual(written(house), f"ring {islands}")
            desk.say("person ana 2")
            self.assertIs(desk.house, house)
            self.assertEqual(asks.people(house), ["ana"])

    def test_desks_have_nothing_to_do_with_one_another(self):
        one, other = Desk(3), Desk(3)
        self.assert_said(one, ("person ana 0", "done"), ("season", "season 1"))
        self.assert_said(other, ("season", "season 1"), ("person ana 1", "done"), ("undo", "undone person ana 1"))
        self.assertEqual(written(one.house), "ring 3\nperson ana 0\nseason")
        self.assertEqual(written(other.house), "ring 3\nseason")


class DeedsTest(DeskTest):
    def test_each_deed(self):
        self.assert_said(
            trading_desk(), ("sail 1 backward", "done"), ("vow shell bo 0", "vow 0"), ("give shell bo", "gift 0"),
            ("season", "season 1"), ("vow cuff ana 1000000", "vow 1"), ("sail 0 forward", "done"),
            ("give cuff ana", "gift 1"), ("home 0", "done"), ("part ana bo", "done"), ("partners ana bo", "done"),
            ("season", "season 2"), ("vow band ana 2", "vow 2"),
        )

    def test_each_refusal(self):
        desk = trading_desk()
        self.assert_said(desk, ("sail 1 backward", "done"), ("give shell di", "gift 0"), ("season", "season 1"))
        self.assert_said(desk, ("vow cuff ana 3", "vow 0"), ("make bead necklace 3 ana", "done"))
        self.assert_said(desk, ("vow bead di 3", "vow 1"), ("season", "season 2"), ("undo", "undone season"))
        for row, word in (
            ("person ana 7", "taken"), ("person eve 3", "no island"), ("partners ana eve", "no person"),
            ("partners ana cy", "not neighbours"), ("partners ana bo", "told twice"), ("part eve bo", "no person"),
            ("part bo ana", "not partners"), ("part ana di", "owing"), ("make shell up 0 eve", "taken"),
            ("make new up 0 eve", "bad kind"), ("make new armring 0 eve", "bad rank"),
            ("make new armring 1000001 ana", "bad rank"), ("make new armring 1 eve", "no person"),
            ("sail 3 up", "no island"), ("sail 1 up", "bad way"), ("sail 1 forward", "away"), ("home 3", "no island"),
            ("home 0", "not away"), ("give new eve", "no thing"), ("give shell eve", "no person"),
            ("give shell bo", "not partners"), ("give bead cy", "not partners"), ("give band cy", "wrong way"),
            ("give band ana", "no fleet"), ("give bead bo", "promised"), ("vow new eve 0", "no thing"),
            ("vow band eve 0", "no person"), ("vow band di 0", "not partners"), ("vow band cy 0", "wrong way"),
            ("vow cuff ana 0", "bad season"), ("vow cuff ana 1000001", "bad season"), ("vow cuff ana 4", "promised"),
        ):
            self.assert_changes_nothing(desk, f"no: {word}", row)
        # What could be redone still can.
        self.assert_said(desk, ("redo", "redone season"), ("redo", "no: nothing left"))

    def test_numbers_and_names_of_another_form(self):
        desk = trading_desk()
        self.assert_changes_nothing(
            desk, BAD_TEXT, "person eve 00", "person eve 01", "person eve -1", "person eve 1234567890", "person Eve 0",
            "person abcdefghijklm 0", "home -1", "sail 0 Forward", "make new Necklace 1 ana", "vow shell bo -1",
        )
        self.assert_changes_nothing(desk, "no: no island", "person eve 123456789")
        self.assert_said(desk, ("person abcdefghijkl 0", "done"))


class UndoTest(DeskTest):
    def test_both_ends(self):
        desk = Desk(3)
        self.assert_changes_nothing(desk, "no: nothing left", "undo", "redo", "redo", "undo")
        self.assert_said(
            desk, ("person ana 0", "done"), ("season", "season 1"), ("redo", "no: nothing left"),
            ("undo", "undone season"), ("undo", "undone person ana 0"), ("undo", "no: nothing left"),
            ("redo", "redone person ana 0"), ("undo", "undone person ana 0"), ("redo", "redone person ana 0"),
            ("redo", "redone season"), ("redo", "no: nothing left"), ("undo", "undone season"),
            ("season", "season 1"), ("redo", "no: nothing left"), ("undo", "undone season"),
            ("sail 0 forward", "done"), ("redo", "no: nothing left"), ("undo", "undone sail 0 forward"),
        )

    def test_the_text_of_each_deed(self):
        desk = trading_desk()
        rows = [
            "vow shell bo 7", "sail 1 backward", "give shell bo", "season", "sail 0 forward", "give cuff ana",
            "part ana bo", "home 1",
        ]
        for row in rows:
            self.assertNotEqual(desk.say(row)[:3], "no:")
        for row in reversed(FIRST_ROWS + rows):
            self.assert_said(desk, ("undo", f"undone {row}"))
        self.assert_said(desk, ("undo", "no: nothing left"))
        for row in FIRST_ROWS + rows:
            self.assert_said(desk, ("redo", f"redone {row}"))
        self.assert_said(desk, ("redo", "no: nothing left"))

    def test_rows_that_only_look_so(self):
        desk = trading_desk()
        desk.say("undo")
        self.assert_changes_nothing(
            desk, BAD_TEXT, "undo ", " undo", "undo\n", "\nundo", "Undo", "UNDO", "undo undo", "undo 1",
            "redo ", " redo", "redo\n", "Redo", "redo redo", "redo 1", "undone", "redone", f"undo {FIRST_ROWS[-1]}",
        )


class QuestionTest(DeskTest):
    def test_thing(self):
        desk = trading_desk()
        self.assert_said(
            desk, ("thing shell", "necklace 5 ana"), ("thing band", "armring 4 bo"), ("sail 1 backward", "done"),
            ("give shell bo", "gift 0"), ("thing shell", "necklace 5 bo"), ("undo", "undone give shell bo"),
            ("thing shell", "necklace 5 ana"),
        )
        self.assert_changes_nothing(desk, "no: no thing", "thing ana", "thing none", "thing shells")

    def test_the_rank_now(self):
        desk = Desk(3)
        for island in range(3):
            desk.say(f"person p{island} {island}")
        for island in range(3):
            desk.say(f"sail {island} backward")
            desk.say(f"partners p{island} p{(island + 1) % 3}")
        desk.say("make shell necklace 1000000 p0")
        for given in range(7):
            self.assert_said(desk, ("thing shell", f"necklace {1000000 + given // 3} p{given % 3}"))
            self.assert_said(desk, (f"give shell p{(given + 1) % 3}", f"gift {given}"))

    def test_owes(self):
        desk = trading_desk()
        self.assert_said(
            desk, ("owes bo", "-"), ("make bead necklace 5 ana", "done"), ("sail 1 backward", "done"),
            ("give shell bo", "gift 0"), ("owes bo", "0"), ("give bead bo", "gift 1"), ("owes bo", "0 1"),
            ("owes ana", "-"), ("owes cy", "-"), ("sail 0 forward", "done"), ("give band ana", "gift 2"),
            ("owes ana", "2"), ("owes bo", "0 1"), ("give cuff ana", "gift 3"), ("owes ana", "2"), ("owes bo", "1"),
            ("undo", "undone give cuff ana"), ("owes bo", "0 1"),
        )
        self.assert_changes_nothing(desk, "no: no person", "owes eve", "owes shell")

    def test_answers(self):
        desk = trading_desk()
        self.assert_said(
            desk, ("answers ana bo", "0"), ("sail 1 backward", "done"), ("sail 0 forward", "done"),
            ("give shell bo", "gift 0"), ("answers ana bo", "0"), ("give cuff ana", "gift 1"), ("answers ana bo", "1"),
            ("give band ana", "gift 2"), ("answers ana bo", "1"), ("make bead necklace 4 ana", "done"),
            ("give bead bo", "gift 3"), ("answers ana bo", "2"), ("part ana bo", "done"),
            ("answers ana bo", "no: not partners"), ("partners ana bo", "done"), ("answers ana bo", "0"),
        )
        self.assert_changes_nothing(desk, "no: no person", "answers ana eve", "answers eve bo", "answers eve shell")
        self.assert_changes_nothing(desk, "no: not partners", "answers bo ana", "answers ana cy", "answers ana ana")

    def test_road(self):
        desk = trading_desk()
        self.assert_said(
            desk, ("road shell ana", "0"), ("road shell bo", "1"), ("road shell di", "1"), ("road shell cy", "2"),
            ("road band ana", "1"), ("road band cy", "-"), ("road band di", "-"), ("partners cy ana", "done"),
            ("road band cy", "2"), ("road band di", "-"), ("undo", "undone partners cy ana"), ("road band cy", "-"),
        )
        self.assert_changes_nothing(desk, "no: no thing", "road ana ana", "road none ana", "road none eve")
        self.assert_changes_nothing(desk, "no: no person", "road shell eve", "road shell shell")

    def test_names_of_another_form(self):
        desk = trading_desk()
        desk.say("undo")
        for name in NO_NAMES:
            self.assert_changes_nothing(
                desk, BAD_TEXT, f"thing {name}", f"owes {name}", f"answers {name} bo", f"answers ana {name}",
                f"answers {name} {name}", f"road {name} ana", f"road shell {name}",
                # Something else is due, too.
                f"answers eve {name}", f"answers {name} eve", f"road none {name}", f"road {name} eve",
            )

    def test_a_word_more_or_less(self):
        desk = trading_desk()
        for row in ("thing shell", "owes ana", "answers ana bo", "road shell bo"):
            self.assertNotEqual(desk.say(row), BAD_TEXT)
            self.assert_changes_nothing(
                desk, BAD_TEXT, row.split(" ")[0], f"{row} ", f" {row}", f"{row}\n", f"\n{row}", f"{row} bo",
                f"{row} 1", row.replace(" ", "  ", 1), row.replace(" ", "\n", 1), row.upper(), row.title(),
                row.rpartition(" ")[0], f"{row} ana bo cy",
            )


class NoRowTest(DeskTest):
    def test_rows_that_are_none_of_these(self):
        desk = trading_desk()
        desk.say("undo")
        self.assert_changes_nothing(
            desk, BAD_TEXT, "", " ", "\n", "hello", "ring 3", "ring 2", "person", "gift 0", "done", "people",
            "things shell", "owed ana", "answer ana bo", "roads shell ana", "whole shell", "say", "no: bad text", "-",
            "0", "~" * 40000, " " * 40000, "thing " * 6000, "\n" * 40000,
        )

    def test_deeds_with_a_blank_more_or_a_line_end(self):
        desk = trading_desk()
        desk.say("undo")
        for row in (
            "person eve 0", "partners cy ana", "part ana bo", "make new necklace 5 ana", "sail 0 forward", "home 0",
            "give shell bo", "vow shell bo 7", "season",
        ):
            self.assert_changes_nothing(
                desk, BAD_TEXT, f"{row} ", f" {row}", f"{row}\n", f"\n{row}", f"{row} 1", f"{row} ana", row.upper(),
                f"{row}\n{row}", *[f"{row[:at]} {row[at:]}" for at, sign in enumerate(row) if sign == " "],
            )


class ByHandTest(DeskTest):
    def test_deeds_by_hand_count_for_later_rows(self):
        desk = Desk(3)
        desk.house.person("ana", 0)
        desk.house.person("bo", 1)
        self.assert_said(desk, ("partners ana bo", "done"), ("person bo 1", "no: taken"))
        desk.house.make("shell", "necklace", 5, "ana")
        desk.house.sail(1, "backward")
        self.assert_said(desk, ("give shell bo", "gift 0"), ("owes bo", "0"))
        desk.house.season()
        self.assert_said(desk, ("season", "season 2"), ("undo", "undone season"), ("undo", "undone season"))
        self.assertEqual(desk.house.undo(), ("give", "shell", "bo"))
        self.assert_said(desk, ("thing shell", "necklace 5 ana"), ("redo", "redone give shell bo"))
        self.assertEqual(desk.house.redo(), ("season",))
        self.assert_said(desk, ("season", "season 2"), ("redo", "no: nothing left"))


def deed_answer(story, deed):
    """What a deed's, an undoing's or a redoing's row is answered with, told by the plain house."""
    word = deed[0]
    if word not in ("undo", "redo") and not plain.DEED_TEXT.fullmatch(plain.text_of(deed)):
        return BAD_TEXT
    how, told = ended(lambda: story.act(deed))
    if how != "told":
        return f"no: {told}"
    if word in ("undo", "redo"):
        return f"{word}ne {plain.text_of(told)}"
    return {"give": f"gift {told}", "vow": f"vow {told}", "season": f"season {told}"}.get(word, "done")


def question_rows(told):
    """Each question of all there is, and of some that there isn't, with its answer."""
    names, things = [*told["people"], "nobody", "Ana"], [*told["things"], "none", "T"]
    for thing in things:
        yield f"thing {thing}", answer(lambda: plain.text_of(asked.thing_of(told, thing)), thing)
        for name in names:
            yield f"road {thing} {name}", answer(lambda: or_none(asked.gifts_to(told, thing, name)), thing, name)
    for name in names:
        yield f"owes {name}", answer(lambda: plain.text_of(asked.owed_by(told, name)) or "-", name)
        for other in names:
            yield f"answers {name} {other}", answer(lambda: count_of_pairs(told, name, other), name, other)


def answer(ask, *names):
    if not all(plain.NAME.fullmatch(name) for name in names):
        return BAD_TEXT
    how, told = ended(ask)
    return str(told) if how == "told" else f"no: {told}"


def or_none(count):
    return "-" if count is None else count


def count_of_pairs(told, behind, ahead):
    numbers = asked.gifts_between(told, behind, ahead)
    return (len(numbers) - len(asked.unanswered(told, behind, ahead))) // 2


class RunsTest(DeskTest):
    def run_through(self, seed, islands, steps):
        chance = random.Random(seed)
        desk, story = Desk(islands), Story(islands)
        for deed in acts_of_a_run(chance, story, steps):
            self.assert_said(desk, (plain.text_of(deed), deed_answer(story, deed)))
            rows = list(question_rows(story.now()))
            self.assert_said(desk, *chance.sample(rows, min(len(rows), 12)))
            self.assertEqual(asks.undone(desk.house), story.undone_deeds())
        self.assert_said(desk, *question_rows(story.now()))
        self.assertEqual(look(desk.house), plain.look(story.now()))
        return desk, story

    def test_hundreds_of_rows(self):
        for seed in range(4):
            with self.subTest(seed):
                desk, story = self.run_through(seed, (3, 4, 5, 3)[seed], 300)
                while story.undone:
                    self.assert_said(desk, ("redo", deed_answer(story, ("redo",))))
                deeds = story.deeds()
                self.assertGreater(len(deeds), 100)
                last = look(desk.house)
                self.assert_said(desk, *[("undo", f"undone {plain.text_of(deed)}") for deed in deeds[::-1]])
                self.assert_said(desk, ("undo", "no: nothing left"))
                self.assertEqual(written(desk.house), f"ring {(3, 4, 5, 3)[seed]}")
                self.assert_said(desk, *[("redo", f"redone {plain.text_of(deed)}") for deed in deeds])
                self.assert_said(desk, ("redo", "no: nothing left"))
                self.assertEqual(look(desk.house), last)


if __name__ == "__main__":
    unittest.main()
