"""What may be a name, what may be a thing's rank, and the two kinds of things."""

# Written out, since Python's own questions after letters and figures let in more signs than a to z and 0 to 9.
LETTERS = "abcdefghijklmnopqrstuvwxyz"
FIGURES = "0123456789"
LONGEST_NAME = 12

LEAST_RANK = 1
GREATEST_RANK = 1000000

NECKLACE = "necklace"
ARMRING = "armring"


def is_name(name):
    """Whether a text is a small letter and then at most eleven small letters and figures."""
    if name == "" or len(name) > LONGEST_NAME:
        return False
    return name[0] in LETTERS and all([sign in LETTERS or sign in FIGURES for sign in name])


def is_rank(rank):
    """Whether a thing can be made with the rank."""
    return LEAST_RANK <= rank <= GREATEST_RANK


def other_kind(kind):
    """The other one of the two kinds."""
    return ARMRING if kind == NECKLACE else NECKLACE
