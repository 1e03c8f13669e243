"""The roads that a thing can go from hand to hand, whatever fleets and promises are."""

from shellround.asks import people, thing_of
from shellround.checks import check_person, check_thing
from shellround.names import NECKLACE


def road(house, thing, name):
    """A shortest list of names along which a thing can go from its holder to somebody, or None."""
    check_thing(house.state, thing)
    check_person(house.state, name)
    kind, rank, holder = thing_of(house, thing)
    if name == holder:
        return [holder]
    return names_along(givers_on(house, kind, holder), holder, name)


def gifts_to(house, thing, name):
    """How many gifts a shortest road of a thing to somebody has, or None."""
    names = road(house, thing, name)
    return None if names is None else len(names) - 1


def reach(house, thing):
    """All to whom there is a road of a thing, in the order of their coming."""
    kind, rank, holder = thing_of(house, thing)
    givers = givers_on(house, kind, holder)
    return [name for name in people(house) if name == holder or name in givers]


def whole_round(house, thing):
    """A shortest list of names along which a thing can go from its holder to the holder again, or None."""
    kind, rank, holder = thing_of(house, thing)
    return names_along(givers_on(house, kind, holder), holder, holder)


def givers_on(house, kind, holder):
    """All to whom a thing can come from its holder by one gift or more, each with the giver on a shortest way.

    The holder is among them only where the thing can come back.
    """
    receivers = receivers_of(house, kind)
    givers = {}
    waiting = [holder]
    at = 0
    while at < len(waiting):
        giver = waiting[at]
        for name in receivers[giver]:
            if name not in givers:
                givers[name] = giver
                waiting.append(name)
        at += 1
    return givers


def receivers_of(house, kind):
    """Everybody, with those to whom a thing of the kind can go from there."""
    receivers = {name: [] for name in house.state.people}
    for behind, ahead in house.state.bonds:
        if kind == NECKLACE:
            receivers[behind].append(ahead)
        else:
            receivers[ahead].append(behind)
    return receivers


def names_along(givers, holder, name):
    """The way of one gift or more from the holder to somebody, or None where there is none."""
    if name not in givers:
        return None
    names = [name, givers[name]]
    while names[-1] != holder:
        names.append(givers[names[-1]])
    return names[::-1]
