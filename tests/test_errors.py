"""Point 4 and the interface's part on the refusals."""

import unittest

from shellround import errors

WORDS = {
    "BadRing": "bad ring",
    "BadName": "bad name",
    "Taken": "taken",
    "NoIsland": "no island",
    "NoPerson": "no person",
    "NotNeighbours": "not neighbours",
    "Twice": "told twice",
    "NotPartners": "not partners",
    "Owing": "owing",
    "BadKind": "bad kind",
    "BadRank": "bad rank",
    "NoThing": "no thing",
    "WrongWay": "wrong way",
    "NoFleet": "no fleet",
    "BadWay": "bad way",
    "Away": "away",
    "NotAway": "not away",
    "Promised": "promised",
    "BadSeason": "bad season",
    "NoGift": "no gift",
    "NothingLeft": "nothing left",
    "BadText": "bad text",
}


class ErrorsTest(unittest.TestCase):
    def test_there_are_twenty_two_and_no_other(self):
        found = [name for name, value in vars(errors).items() if isinstance(value, type)]
        self.assertEqual(sorted(found), sorted([*WORDS, "RoundError"]))
        self.assertEqual(len(WORDS), 22)

    def test_round_error_stands_straight_under_value_error(self):
        self.assertEqual(errors.RoundError.__bases__, (ValueError,))

    def test_each_stands_straight_under_round_error(self):
        for name in WORDS:
            with self.subTest(name):
                self.assertEqual(getattr(errors, name).__bases__, (errors.RoundError,))

    def test_each_has_its_word_from_its_making_on(self):
        for name, word in WORDS.items():
            with self.subTest(name):
                error = getattr(errors, name)()
                self.assertEqual(vars(error), {"word": word})
                self.assertIs(type(error.word), str)

    def test_own_words_leave_the_word_as_it_is(self):
        for name, word in WORDS.items():
            with self.subTest(name):
                error = getattr(errors, name)("some words")
                self.assertEqual(error.word, word)
                self.assertEqual(str(error), "some words")

    def test_any_refusal_has_a_word(self):
        self.assertIs(type(errors.RoundError().word), str)

    def test_errors_have_nothing_to_do_with_one_another(self):
        errors.Taken().word = "changed"
        self.assertEqual(errors.Taken().word, "taken")

    def test_each_is_taken_as_any_refusal(self):
        for name, word in WORDS.items():
            with self.subTest(name), self.assertRaises(errors.RoundError) as caught:
                raise getattr(errors, name)()
            self.assertEqual(caught.exception.word, word)


if __name__ == "__main__":
    unittest.main()
