"""What may be a name, what may be a thing's rank, the two kinds of things and the two ways of sailing."""

from shellround.errors import BadKind, BadWay

# Written out, since Python's own questions after letters and figures let in more signs than a to z and 0 to 9.
LETTERS = "abcdefghijklmnopqrstuvwxyz"
FIGURES = "0123456789"
LONGEST_NAME = 12

LEAST_RANK = 1
GREATEST_RANK = 1000000

NECKLACE = "necklace"
ARMRING = "armring"

FORWARD = "forward"
BACKWARD = "backward"


def is_name(name):
    """Whether a text is a small letter and then at most eleven small letters and figures."""
    if name == "" or len(name) > LONGEST_NAME:
        return False
    return name[0] in LETTERS and all([sign in LETTERS or sign in FIGURES for sign in name])


def is_rank(rank):
    """Whether a thing can be made with the rank."""
    return LEAST_RANK <= rank <= GREATEST_RANK


def check_kind(kind):
    """Refuses a text that is none of the two kinds."""
    if kind not in (NECKLACE, ARMRING):
        raise BadKind(f"a kind is {NECKLACE} or {ARMRING}")


def check_way(way):
    """Refuses a text that is none of the two ways."""
    if way not in (FORWARD, BACKWARD):
        raise BadWay(f"a way is {FORWARD} or {BACKWARD}")


def other_kind(kind):
    """The other one of the two kinds."""
    return ARMRING if kind == NECKLACE else NECKLACE
