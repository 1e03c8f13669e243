"""A desk: a house that is told rows of text and answers each with a text."""

from shellround.asks import answers, owed_by, thing_of
from shellround.doing import do_deed
from shellround.errors import RoundError
from shellround.house import House
from shellround.notes import deed_text, first_word, read_deed, read_row
from shellround.roads import gifts_to

NOTHING = "-"

# Deeds that are answered with a number, and the word ahead of it.
NUMBERED = {"give": "gift", "vow": "vow", "season": "season"}

QUESTION_FORMS = {
    "thing": ("name",),
    "owes": ("name",),
    "answers": ("name", "name"),
    "road": ("name", "name"),
}


def tell_thing(house, question):
    """A thing's kind, rank now and holder."""
    word, thing = question
    kind, rank, holder = thing_of(house, thing)
    return f"{kind} {rank} {holder}"


def tell_owed(house, question):
    """The open gifts that somebody got."""
    word, name = question
    numbers = owed_by(house, name)
    return NOTHING if numbers == [] else " ".join([str(number) for number in numbers])


def tell_answers(house, question):
    """How many pairs two partners have."""
    word, behind, ahead = question
    return str(len(answers(house, behind, ahead)))


def tell_road(house, question):
    """How many gifts a shortest road has."""
    word, thing, name = question
    many = gifts_to(house, thing, name)
    return NOTHING if many is None else str(many)


TELLERS = {"thing": tell_thing, "owes": tell_owed, "answers": tell_answers, "road": tell_road}


def tell_question(house, row):
    """The answer to a row that begins with a question's word."""
    word = first_word(row)
    # A row of another form is refused ahead of whatever the house refuses.
    question = read_row(row, QUESTION_FORMS[word])
    teller = TELLERS[word]
    return teller(house, question)


def tell_deed(house, deed):
    """The answer to a deed that is done."""
    number = do_deed(house, deed)
    word = deed[0]
    return f"{NUMBERED[word]} {number}" if word in NUMBERED else "done"


def tell(house, row):
    """The answer to a row, unless it is refused."""
    if row == "undo":
        return f"undone {deed_text(house.undo())}"
    if row == "redo":
        return f"redone {deed_text(house.redo())}"
    if first_word(row) in QUESTION_FORMS:
        return tell_question(house, row)
    return tell_deed(house, read_deed(row))


class Desk:
    """A desk with its own house."""

    def __init__(self, islands):
        self.house = House(islands)

    def say(self, row):
        """The answer to a row."""
        try:
            return tell(self.house, row)
        except RoundError as refusal:
            return f"no: {refusal.word}"
