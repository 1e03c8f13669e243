"""The ring of islands: numbered from 0, and ahead of the last one lies 0 again."""

from shellround.errors import BadRing, NoIsland

FEWEST_ISLANDS = 3
MOST_ISLANDS = 20


def check_ring(islands):
    """Refuses a count of islands that no ring has."""
    if islands < FEWEST_ISLANDS or islands > MOST_ISLANDS:
        raise BadRing(f"a ring has {FEWEST_ISLANDS} to {MOST_ISLANDS} islands")


def check_island(islands, island):
    """Refuses a number that is no island of a ring of so many."""
    if island < 0 or island >= islands:
        raise NoIsland("islands are numbered from 0 to below their count")


def onward(islands, island, steps):
    """The island so many steps ahead, or back where the steps are below nought."""
    check_ring(islands)
    check_island(islands, island)
    return (island + steps) % islands


def ahead_of(islands, island, other):
    """How many steps ahead of the island the other one is, from 0 to below the count."""
    check_ring(islands)
    check_island(islands, island)
    check_island(islands, other)
    return (other - island) % islands


def rounds_in(islands, steps):
    """How many whole rounds so many steps are."""
    check_ring(islands)
    return steps // islands
