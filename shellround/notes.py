"""Deeds and whole houses as texts, there and back."""

from shellround.asks import deeds
from shellround.doing import do_deed
from shellround.errors import BadText
from shellround.house import House
from shellround.names import FIGURES, is_name

MOST_FIGURES = 9

# What stands behind each deed's word. A kind and a way are names here: what they mean the deed looks at.
DEED_FORMS = {
    "person": ("name", "number"),
    "partners": ("name", "name"),
    "part": ("name", "name"),
    "make": ("name", "name", "number", "name"),
    "sail": ("number", "name"),
    "home": ("number",),
    "give": ("name", "name"),
    "vow": ("name", "name", "number"),
    "season": (),
}


def deed_text(deed):
    """A deed's text: its word and what it was handed, with one blank between."""
    return " ".join([str(part) for part in deed])


def read_deed(text):
    """The deed of a text."""
    word = first_word(text)
    if word not in DEED_FORMS:
        raise BadText("the text begins with no deed's word")
    return read_row(text, DEED_FORMS[word])


def written(house):
    """A house's text: its ring and the deeds that stand."""
    return "\n".join([f"ring {house.islands}"] + [deed_text(deed) for deed in deeds(house)])


def read(text):
    """The house of a text, with nothing to redo."""
    lines = text.split("\n")
    islands = read_ring(lines[0])
    # All lines are read ahead of the first deed, since a text that can't be read is refused ahead of all else.
    told = [read_deed(line) for line in lines[1:]]
    house = House(islands)
    for deed in told:
        do_deed(house, deed)
    return house


def read_ring(line):
    """The count of islands that a house's first line tells."""
    if first_word(line) != "ring":
        raise BadText("a house's text begins with its ring")
    word, islands = read_row(line, ("number",))
    return islands


def first_word(text):
    """What stands ahead of the first blank."""
    return text.split(" ")[0]


def read_row(text, form):
    """A tuple of a row's first word and of those behind it, which are of the form."""
    words = text.split(" ")
    if len(words) != len(form) + 1:
        raise BadText("the row has not as many words as it should")
    return tuple(words[:1] + [read_word(word, sort) for word, sort in zip(words[1:], form)])


def read_word(word, sort):
    """A number for a word that is to be one, a name as it is."""
    if sort == "number":
        return read_number(word)
    if not is_name(word):
        raise BadText("the word has not the form of a name")
    return word


def read_number(word):
    """The number of a word of one to nine figures, without a nought ahead."""
    figures = len(word) <= MOST_FIGURES and all([sign in FIGURES for sign in word])
    if word == "" or not figures or (word != "0" and word[0] == "0"):
        raise BadText("a number has one to nine figures, without a nought ahead")
    return int(word)
