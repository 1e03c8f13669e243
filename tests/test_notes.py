"""Points 18 and 19 and the interface's part on notes."""

import random
import unittest

import plain
from houses import FIFTY, SIXTY, HouseTest, do_all, ended, look, ring_house, undo_all
from runs import Story, act_on_both, acts_of_a_run
from shellround import asks, errors
from shellround.errors import BadText
from shellround.house import House
from shellround.notes import deed_text, read, read_deed, written

BAD_TEXT = (BadText, "bad text")
TEXTS = [
    (("person", "ana", 0), "person ana 0"),
    (("partners", "ana", "bo"), "partners ana bo"),
    (("part", "ana", "bo"), "part ana bo"),
    (("make", "shell", "necklace", 1000000, "ana"), "make shell necklace 1000000 ana"),
    (("sail", 19, "backward"), "sail 19 backward"),
    (("home", 7), "home 7"),
    (("give", "shell", "bo"), "give shell bo"),
    (("vow", "shell", "bo", 12), "vow shell bo 12"),
    (("season",), "season"),
]
NO_NUMBERS = [
    "", "00", "01", "007", "-1", "-0", "+1", "1234567890", "0000000001", "1.0", "1e3", "a", "1a", "1_0", "1\n", "\n1",
    "\n", "0x1", str(SIXTY), "9" * 40000,
]
NUMBERS = ["0", "1", "9", "10", "100", "123456789", "999999999"]
NAMES = ["a", "z", "z9", "abcdefghijkl", "a23456789012", "person", "season", "up", "ring"]
NO_NAMES = [
    "", "A", "Ana", "aNa", "9a", "0", "12", "abcdefghijklm", "a-b", "a_b", "a.b", "ana\n", "\nana", "\n", "-",
    "a" * 40000,
]

STORY = [
    ("person", "ana", 0), ("person", "bo", 1), ("person", "cy", 2), ("partners", "ana", "bo"), ("partners", "bo", "cy"),
    ("make", "shell", "necklace", 5, "ana"), ("make", "band", "armring", 5, "bo"), ("vow", "shell", "bo", 3),
    ("sail", 1, "backward"), ("give", "shell", "bo"), ("season",), ("home", 1), ("sail", 0, "forward"),
    ("give", "band", "ana"), ("part", "ana", "bo"), ("vow", "shell", "cy", 1000000), ("partners", "ana", "bo"),
]
STORY_TEXT = """\
ring 3
person ana 0
person bo 1
person cy 2
partners ana bo
partners bo cy
make shell necklace 5 ana
make band armring 5 bo
vow shell bo 3
sail 1 backward
give shell bo
season
home 1
sail 0 forward
give band ana
part ana bo
vow shell cy 1000000
partners ana bo"""


class DeedTest(unittest.TestCase):
    def assert_bad(self, *texts):
        for text in texts:
            with self.subTest(text[:60]):
                self.assertEqual(ended(lambda: read_deed(text)), BAD_TEXT)

    def assert_read(self, text, deed):
        found = read_deed(text)
        self.assertIs(type(found), tuple)
        self.assertEqual(found, deed)
        self.assertEqual([type(part) for part in found], [type(part) for part in deed])
        self.assertEqual(deed_text(found), text)

    def test_each_deed_there_and_back(self):
        for deed, text in TEXTS:
            with self.subTest(text):
                self.assertEqual(deed_text(deed), text)
                self.assert_read(text, deed)

    def test_numbers(self):
        for form in ("person ana {}", "make shell armring {} ana", "sail {} forward", "home {}", "vow shell ana {}"):
            for number in NUMBERS:
                text = form.format(number)
                deed = tuple(int(word) if word == number else word for word in text.split(" "))
                self.assert_read(text, deed)
            self.assert_bad(*[form.format(number) for number in NO_NUMBERS + ["ana", "A", "1 1", " 1", "1 "]])

    def test_names(self):
        for form in (
            "person {} 0", "partners {} bo", "partners bo {}", "part {} bo", "part bo {}", "make {} necklace 1 ana",
            "make shell necklace 1 {}", "give {} bo", "give shell {}", "vow {} bo 1", "vow shell {} 1",
            # A kind and a way that are none but have a name's form.
            "make shell {} 1 ana", "sail 0 {}",
        ):
            for name in NAMES:
                text = form.format(name)
                self.assert_read(text, tuple(int(word) if word in ("0", "1") else word for word in text.split(" ")))
            self.assert_bad(*[form.format(name) for name in NO_NAMES])

    def test_blanks_and_line_ends(self):
        for deed, text in TEXTS:
            self.assert_bad(f" {text}", f"{text} ", f"  {text}", f"{text}\n", f"\n{text}", f"{text}\n{text}")
            self.assert_bad(f"{text} \n", f"{text}\n ")
            self.assert_bad(*[f"{text[:at]} {text[at:]}" for at, sign in enumerate(text) if sign == " "])
            self.assert_bad(*[f"{text[:at]}\n{text[at + 1:]}" for at, sign in enumerate(text) if sign == " "])

    def test_a_word_more_or_less(self):
        for deed, text in TEXTS:
            words = text.split(" ")
            self.assert_bad(f"{text} ana", f"{text} 0", f"ana {text}", f"0 {text}")
            self.assert_bad(*[" ".join(words[:at] + words[at + 1:]) for at in range(len(words))])

    def test_other_words(self):
        self.assert_bad(
            "", " ", "\n", "undo", "redo", "people", "persons ana 0", "perso ana 0", "ring 3", "thing shell",
            "owes ana", "answers ana bo", "road shell ana", "name", "number", "stand", "~" * 40000, "a " * 20000,
            " " * 40000,
        )

    def test_great_letters(self):
        for deed, text in TEXTS:
            self.assert_bad(text.upper(), text.title(), text[0].upper() + text[1:])

    def test_numbers_and_names_in_one_anothers_places(self):
        self.assert_bad(
            "person 0 ana", "sail forward 0", "home ana", "make shell 1 necklace ana", "vow shell 1 bo",
            "make shell necklace ana 1",
        )

    def test_texts_with_one_sign_changed(self):
        chance = random.Random(18)
        signs = [chr(sign) for sign in range(32, 127) if sign != 37] + ["\n"]
        for deed, text in TEXTS:
            for at in range(len(text)):
                for sign in chance.sample(signs, 12) + ["", " ", "0", "a", "\n"]:
                    changed = text[:at] + sign + text[at + chance.choice([0, 1]):]
                    if plain.DEED_TEXT.fullmatch(changed):
                        self.assertEqual(deed_text(read_deed(changed)), changed)
                    else:
                        self.assert_bad(changed)

    def test_what_is_read_is_the_askers_own(self):
        self.assertEqual(read_deed("season"), read_deed("season"))
        deed = ("home", 3)
        self.assertEqual(deed_text(deed), "home 3")
        self.assertEqual(deed, ("home", 3))


class WholeTest(HouseTest):
    def assert_alike(self, one, other):
        self.assertEqual(written(one), written(other))
        self.assertEqual(look(one), look(other))
        self.assertEqual(asks.deeds(one), asks.deeds(other))

    def test_an_empty_house(self):
        for islands in (3, 4, 19, 20):
            self.assertEqual(written(House(islands)), f"ring {islands}")
            self.assert_alike(read(f"ring {islands}"), House(islands))
            # The ring is as great as it is told.
            house = read(f"ring {islands}")
            house.person("ana", islands - 1)
            self.assertEqual(ended(lambda: house.person("bo", islands))[0], errors.NoIsland)

    def test_a_house_there_and_back(self):
        house = House(3)
        do_all(house, *STORY)
        self.assertEqual(written(house), STORY_TEXT)
        again = read(STORY_TEXT)
        self.assertIs(type(again), House)
        self.assert_alike(again, house)
        self.assertEqual(asks.undone(again), [])
        self.assertEqual(written(again), STORY_TEXT)
        self.assertEqual(ended(again.redo), (errors.NothingLeft, "nothing left"))

    def test_its_deeds_can_be_undone_one_by_one(self):
        again, lines = read(STORY_TEXT), STORY_TEXT.split("\n")
        for at in range(len(STORY), 0, -1):
            self.assertEqual(again.undo(), STORY[at - 1])
            self.assertEqual(written(again), "\n".join(lines[:at]))
            self.assert_alike(again, read("\n".join(lines[:at])))
        self.assertEqual(ended(again.undo), (errors.NothingLeft, "nothing left"))
        for deed in STORY:
            self.assertEqual(again.redo(), deed)
        self.assertEqual(written(again), STORY_TEXT)

    def test_with_deeds_undone(self):
        house = House(3)
        do_all(house, *STORY)
        for _ in range(4):
            house.undo()
        before = look(house), asks.deeds(house), asks.undone(house)
        text = written(house)
        self.assertEqual(text, "\n".join(STORY_TEXT.split("\n")[:-4]))
        # Writing changes nothing, and what can be redone neither.
        self.assertEqual((look(house), asks.deeds(house), asks.undone(house)), before)
        self.assertEqual(asks.undone(house), STORY[-4:])
        self.assertEqual(asks.undone(read(text)), [])
        self.assert_alike(read(text), house)
        for deed in STORY[-4:]:
            self.assertEqual(house.redo(), deed)

    def test_all_undone(self):
        house = ring_house(5)
        undo_all(house)
        self.assertEqual(written(house), "ring 5")

    def test_a_house_that_is_read_goes_its_own_way(self):
        house = House(3)
        do_all(house, *STORY)
        one, other = read(written(house)), read(written(house))
        one.season()
        undo_all(other)
        self.assertEqual(written(house), STORY_TEXT)
        self.assertEqual(written(one), STORY_TEXT + "\nseason")
        self.assertEqual(written(other), "ring 3")

    def test_runs(self):
        for seed in range(6):
            islands = (3, 4, 5)[seed % 3]
            house, story = House(islands), Story(islands)
            for number, deed in enumerate(acts_of_a_run(random.Random(seed), story, 200)):
                act_on_both(self, house, story, deed)
                if number % 5 == 0:
                    text = "\n".join([f"ring {islands}", *map(plain.text_of, story.deeds())])
                    self.assertEqual(written(house), text)
                    self.assertEqual(asks.undone(house), story.undone_deeds())
                    again = read(text)
                    self.assert_alike(again, house)
                    self.assertEqual(asks.undone(again), [])


class WholeRefusedTest(unittest.TestCase):
    def assert_refused(self, end, *texts):
        for text in texts:
            with self.subTest(text[:60]):
                self.assertEqual(ended(lambda: read(text)), end)

    def test_the_first_line(self):
        self.assert_refused(
            BAD_TEXT, "", " ", "\n", "ring", "ring ", "ring  3", " ring 3", "ring 3 ", "ring 3 3", "Ring 3", "RING 3",
            "rings 3", "ring three", "3", "season", "person ana 0", "ring\n3", "\nring 3", "season\nring 3",
            "person ana 0\nring 3",
        )
        self.assert_refused(BAD_TEXT, *[f"ring {number}" for number in NO_NUMBERS])

    def test_a_line_end_at_the_end(self):
        self.assert_refused(BAD_TEXT, "ring 3\n", "ring 3\n\n", STORY_TEXT + "\n", STORY_TEXT.replace("\n", "\n\n", 1))

    def test_other_lines(self):
        for at in range(1, len(STORY) + 1):
            lines = STORY_TEXT.split("\n")
            for line in ("", " ", "seasons", "ring 3", "undo", "redo", f"{lines[at]} ", f" {lines[at]}", "home -1"):
                self.assert_refused(BAD_TEXT, "\n".join(lines[:at] + [line] + lines[at + 1:]))
                self.assert_refused(BAD_TEXT, "\n".join(lines[:at] + [line] + lines[at:]))

    def test_bad_ring(self):
        for number in (0, 1, 2, 21, 22, 100, 999999999):
            self.assert_refused((errors.BadRing, "bad ring"), f"ring {number}", f"ring {number}\nseason")
        for number in ("01", "03", "-3", str(FIFTY), "1000000000"):
            self.assert_refused(BAD_TEXT, f"ring {number}", f"ring {number}\nseason")

    def test_a_refused_deed(self):
        for line, error in (
            ("person ana 0", errors.Taken), ("person eve 3", errors.NoIsland),
            ("person eve 999999999", errors.NoIsland),
            ("partners ana eve", errors.NoPerson), ("partners ana cy", errors.NotNeighbours),
            ("partners ana bo", errors.Twice), ("part bo ana", errors.NotPartners),
            ("make shell up 0 eve", errors.Taken), ("make new up 0 eve", errors.BadKind),
            ("make new necklace 0 eve", errors.BadRank), ("make new necklace 1000001 ana", errors.BadRank),
            ("make new necklace 1 eve", errors.NoPerson), ("sail 3 up", errors.NoIsland), ("sail 2 up", errors.BadWay),
            ("sail 0 forward", errors.Away), ("home 3", errors.NoIsland), ("home 2", errors.NotAway),
            ("give none ana", errors.NoThing), ("give shell eve", errors.NoPerson),
            ("give band cy", errors.NotPartners), ("give shell ana", errors.WrongWay),
            ("give shell cy", errors.NoFleet),
            ("vow shell cy 0", errors.BadSeason), ("vow shell cy 1000001", errors.BadSeason),
            ("vow shell cy 4", errors.Promised),
        ):
            word = error().word
            self.assert_refused((error, word), f"{STORY_TEXT}\n{line}", f"{STORY_TEXT}\n{line}\nseason")
            # The first one that is refused is raised.
            self.assert_refused((error, word), f"{STORY_TEXT}\n{line}\nperson bo 9", f"{STORY_TEXT}\n{line}\nhome 2")
            # A line that is no deed's text is refused ahead of it, and so is a ring that is none.
            self.assert_refused(BAD_TEXT, f"{STORY_TEXT}\n{line}\n", f"{STORY_TEXT}\n{line}\nseasons")
            bad_ring = STORY_TEXT.replace("ring 3", "ring 2", 1)
            self.assert_refused((errors.BadRing, "bad ring"), f"{bad_ring}\n{line}")
            self.assert_refused(BAD_TEXT, f"{bad_ring}\n{line}\nseason ")

    def test_owing(self):
        self.assert_refused(
            (errors.Owing, "owing"), "\n".join(STORY_TEXT.split("\n")[:11] + ["part ana bo", "season"]),
        )

    def test_what_is_due_at_once(self):
        self.assert_refused(BAD_TEXT, "ring 2\nseasons", "ring 21\n", "ring 0\nperson ana 7\n", "ring x\nhome 1")
        self.assert_refused((errors.BadRing, "bad ring"), "ring 2\nhome 1", "ring 21\nperson ana 99\nhome 1")
        self.assert_refused((errors.NotAway, "not away"), "ring 3\nhome 1\nperson ana 99")
        self.assert_refused((errors.NoIsland, "no island"), "ring 3\nperson ana 99\nhome 1")
        self.assert_refused(BAD_TEXT, "ring 3\nhome 1\nperson ana -1")


if __name__ == "__main__":
    unittest.main()
