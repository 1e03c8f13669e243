"""Deeds that are told as tuples, done in a house."""


def do_deed(house, deed):
    """Does the deed of a tuple of its word and what it is handed; what the house tells of it."""
    word = deed[0]
    if word == "person":
        return house.person(deed[1], deed[2])
    if word == "partners":
        return house.partners(deed[1], deed[2])
    if word == "part":
        return house.part(deed[1], deed[2])
    if word == "make":
        return house.make(deed[1], deed[2], deed[3], deed[4])
    if word == "sail":
        return house.sail(deed[1], deed[2])
    if word == "home":
        return house.home(deed[1])
    if word == "give":
        return house.give(deed[1], deed[2])
    if word == "vow":
        return house.vow(deed[1], deed[2], deed[3])
    return house.season()
