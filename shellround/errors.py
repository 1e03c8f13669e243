"""The refusals: one class for each, with the word by which it is answered."""


class RoundError(ValueError):
    """Any refusal."""

    def __init__(self, why="", word="refused"):
        ValueError.__init__(self, why or word)
        self.word = word


class BadRing(RoundError):
    """A ring has too few or too many islands."""

    def __init__(self, why=""):
        RoundError.__init__(self, why, "bad ring")


class BadName(RoundError):
    """A text has not the form of a name."""

    def __init__(self, why=""):
        RoundError.__init__(self, why, "bad name")


class Taken(RoundError):
    """A name is borne already."""

    def __init__(self, why=""):
        RoundError.__init__(self, why, "taken")


class NoIsland(RoundError):
    """A number is no island of the ring."""

    def __init__(self, why=""):
        RoundError.__init__(self, why, "no island")


class NoPerson(RoundError):
    """Nobody has the name."""

    def __init__(self, why=""):
        RoundError.__init__(self, why, "no person")


class NotNeighbours(RoundError):
    """The second one doesn't live one island ahead of the first."""

    def __init__(self, why=""):
        RoundError.__init__(self, why, "not neighbours")


class Twice(RoundError):
    """The two are partners already."""

    def __init__(self, why=""):
        RoundError.__init__(self, why, "told twice")


class NotPartners(RoundError):
    """The two are no partners."""

    def __init__(self, why=""):
        RoundError.__init__(self, why, "not partners")


class Owing(RoundError):
    """A gift between the partners is in no pair."""

    def __init__(self, why=""):
        RoundError.__init__(self, why, "owing")


class BadKind(RoundError):
    """A text is no kind of thing."""

    def __init__(self, why=""):
        RoundError.__init__(self, why, "bad kind")


class BadRank(RoundError):
    """A number can't be the rank."""

    def __init__(self, why=""):
        RoundError.__init__(self, why, "bad rank")


class NoThing(RoundError):
    """No thing has the name."""

    def __init__(self, why=""):
        RoundError.__init__(self, why, "no thing")


class WrongWay(RoundError):
    """The thing doesn't go from the one partner to the other."""

    def __init__(self, why=""):
        RoundError.__init__(self, why, "wrong way")


class NoFleet(RoundError):
    """The receiver's fleet doesn't lie at the holder's island."""

    def __init__(self, why=""):
        RoundError.__init__(self, why, "no fleet")


class BadWay(RoundError):
    """A text is no way to sail."""

    def __init__(self, why=""):
        RoundError.__init__(self, why, "bad way")


class Away(RoundError):
    """The fleet is away."""

    def __init__(self, why=""):
        RoundError.__init__(self, why, "away")


class NotAway(RoundError):
    """The fleet is at home."""

    def __init__(self, why=""):
        RoundError.__init__(self, why, "not away")


class Promised(RoundError):
    """The thing has a standing promise that forbids the deed."""

    def __init__(self, why=""):
        RoundError.__init__(self, why, "promised")


class BadSeason(RoundError):
    """A promise can't last till that season."""

    def __init__(self, why=""):
        RoundError.__init__(self, why, "bad season")


class NoGift(RoundError):
    """No gift has the number."""

    def __init__(self, why=""):
        RoundError.__init__(self, why, "no gift")


class NothingLeft(RoundError):
    """There is nothing to undo or to redo."""

    def __init__(self, why=""):
        RoundError.__init__(self, why, "nothing left")


class BadText(RoundError):
    """A text has not the form that is read."""

    def __init__(self, why=""):
        RoundError.__init__(self, why, "bad text")
