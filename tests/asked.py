"""The interface's parts on questions and on roads, told the slow way by the document's words.

They are asked of the plain house of plain.py, whatever asks and roads do.
"""

import plain
import putting
from houses import asked_twice, ended
from shellround import asks, errors, roads

KINDS = ("necklace", "armring")
NO_NAMES = ("", "nobody", "none", "A0")


def refuse_nobody(told, *names):
    plain.refuse((errors.NoPerson, any(name not in told["people"] for name in names)))


def refuse_nothing(told, thing):
    plain.refuse((errors.NoThing, thing not in told["things"]))


def refuse_strangers(told, behind, ahead):
    refuse_nobody(told, behind, ahead)
    plain.refuse((errors.NotPartners, (behind, ahead) not in told["partners"]))


def people(told):
    return list(told["people"])


def things(told):
    return list(told["things"])


def island_of(told, name):
    refuse_nobody(told, name)
    return told["people"][name]


def partners_of(told, name):
    refuse_nobody(told, name)
    back, ahead = [], []
    for other in told["people"]:
        if (other, name) in told["partners"]:
            back.append(other)
        if (name, other) in told["partners"]:
            ahead.append(other)
    return back, ahead


def held_by(told, name):
    refuse_nobody(told, name)
    return [thing for thing in told["things"] if plain.holder_of(told, thing) == name]


def open_between(told, behind, ahead):
    numbers = told["partners"][behind, ahead]
    paired = putting.settled(plain.rows_of(told, numbers))
    return [number for place, number in enumerate(numbers) if place not in paired]


def owed(told, name, column):
    refuse_nobody(told, name)
    found = [number for pair in told["partners"] for number in open_between(told, *pair)]
    return sorted(number for number in found if told["gifts"][number][column] == name)


def owed_by(told, name):
    return owed(told, name, 3)


def owed_to(told, name):
    return owed(told, name, 2)


def thing_of(told, thing):
    refuse_nothing(told, thing)
    return told["things"][thing]["kind"], plain.rank_of(told, thing), plain.holder_of(told, thing)


def line_of(told, thing):
    refuse_nothing(told, thing)
    return list(told["things"][thing]["line"])


def steps_of(told, thing):
    refuse_nothing(told, thing)
    return len([gift for gift in told["gifts"] if gift[1] == thing])


def gifts(told):
    return list(told["gifts"])


def gifts_between(told, behind, ahead):
    refuse_strangers(told, behind, ahead)
    return list(told["partners"][behind, ahead])


def unanswered(told, behind, ahead):
    refuse_strangers(told, behind, ahead)
    return open_between(told, behind, ahead)


def could_answer(told, number):
    plain.refuse((errors.NoGift, number not in range(len(told["gifts"]))))
    if not any(number in numbers for numbers in told["partners"].values()):
        return []
    _, thing, giver, receiver, _, rank = told["gifts"][number]
    found = []
    for name in held_by(told, receiver):
        promise = plain.standing(told, name)
        free = promise is None or promise[2] == giver
        unlike = told["things"][name]["kind"] != told["things"][thing]["kind"]
        if free and unlike and plain.rank_of(told, name) >= rank:
            found.append(name)
    return found


def vows(told):
    return [tuple(promise) for promise in told["promises"]]


def fleets(told):
    return sorted(told["fleets"].items())


def season_now(told):
    return told["season"]


def can_go(told, thing, giver, receiver):
    pair = (giver, receiver) if told["things"][thing]["kind"] == "necklace" else (receiver, giver)
    return pair in told["partners"]


def within(told, thing):
    """Everybody who can be come to, with the least count of gifts, from 0 for the holder on."""
    found = {plain.holder_of(told, thing): 0}
    for count in range(1, len(told["people"])):
        near = [name for name, gifts_there in found.items() if gifts_there == count - 1]
        for name in told["people"]:
            if name not in found and any(can_go(told, thing, giver, name) for giver in near):
                found[name] = count
    return found


def gifts_to(told, thing, name):
    refuse_nothing(told, thing)
    refuse_nobody(told, name)
    return within(told, thing).get(name)


def reach(told, thing):
    refuse_nothing(told, thing)
    found = within(told, thing)
    return [name for name in told["people"] if name in found]


def gifts_of_a_whole_round(told, thing):
    refuse_nothing(told, thing)
    holder = plain.holder_of(told, thing)
    counts = [count + 1 for name, count in within(told, thing).items() if can_go(told, thing, name, holder)]
    return min(counts, default=None)


def assert_way(test, told, thing, names):
    """A list of names along which the thing can go from its holder."""
    test.assertIs(type(names), list)
    test.assertEqual(names[0], plain.holder_of(told, thing))
    for giver, receiver in zip(names, names[1:]):
        test.assertTrue(can_go(told, thing, giver, receiver), (thing, giver, receiver))


def assert_alike(test, house, told, questions, *handed):
    """Each question is told alike of the house and of the plain one."""
    for plain_question, question in questions:
        end = ended(lambda: plain_question(told, *handed))
        found = ended(lambda: asked_twice(test, lambda: question(house, *handed)))
        test.assertEqual(found, end, (question.__name__, handed))


def assert_of_all(test, house, told):
    assert_alike(test, house, told, [
        (people, asks.people), (things, asks.things), (gifts, asks.gifts), (vows, asks.vows), (fleets, asks.fleets),
        (season_now, asks.season_now),
    ])


def assert_of_person(test, house, told, name):
    assert_alike(test, house, told, [
        (island_of, asks.island_of), (partners_of, asks.partners_of), (held_by, asks.held_by),
        (owed_by, asks.owed_by), (owed_to, asks.owed_to),
    ], name)


def assert_of_thing(test, house, told, thing):
    assert_alike(test, house, told, [
        (thing_of, asks.thing_of), (line_of, asks.line_of), (steps_of, asks.steps_of), (reach, roads.reach),
    ], thing)
    end = ended(lambda: gifts_of_a_whole_round(told, thing))
    found = ended(lambda: asked_twice(test, lambda: roads.whole_round(house, thing)))
    if end[0] != "told" or end[1] is None:
        test.assertEqual(found, end)
        return
    assert_way(test, told, thing, found[1])
    test.assertEqual(found[1][-1], found[1][0])
    test.assertEqual(len(found[1]) - 1, end[1])


def assert_of_pair(test, house, told, behind, ahead):
    assert_alike(
        test, house, told, [(gifts_between, asks.gifts_between), (unanswered, asks.unanswered)], behind, ahead,
    )
    end = ended(lambda: refuse_strangers(told, behind, ahead))
    found = ended(lambda: asked_twice(test, lambda: asks.answers(house, behind, ahead)))
    if end[0] != "told":
        test.assertEqual(found, end)
        for kind in (*KINDS, "ring", ""):
            test.assertEqual(ended(lambda: asks.paper(house, behind, ahead, kind)), end)
        return
    assert_pairs(test, told, behind, ahead, found[1])
    for kind in KINDS:
        assert_paper(test, told, behind, ahead, kind, asked_twice(test, lambda: asks.paper(house, behind, ahead, kind)))
    test.assertEqual(ended(lambda: asks.paper(house, behind, ahead, "ring")), (errors.BadKind, "bad kind"))


def assert_pairs(test, told, behind, ahead, pairs):
    """Pairs of two partners' gifts, of all that are in pairs; which is paired with which is free."""
    numbers = told["partners"][behind, ahead]
    rows = plain.rows_of(told, numbers)
    test.assertIs(type(pairs), list)
    test.assertTrue(putting.is_rising(pairs))
    for pair in pairs:
        test.assertIs(type(pair), tuple)
        earlier, later = pair
        test.assertLess(earlier, later)
        test.assertTrue(putting.fit(rows, numbers.index(earlier), numbers.index(later)))
    paired = [numbers[place] for place in putting.settled(rows)]
    test.assertEqual(sorted(number for pair in pairs for number in pair), paired)


def assert_paper(test, told, behind, ahead, kind, paper):
    numbers = told["partners"][behind, ahead]
    rows = plain.rows_of(told, numbers)
    left = [numbers.index(number) for number in open_between(told, behind, ahead)]
    test.assertIs(type(paper), tuple)
    # The places rise just where the numbers do.
    places = tuple([numbers.index(number) for number in part] for part in paper)
    putting.assert_paper(test, rows, left, kind, places)


def assert_of_road(test, house, told, thing, name):
    assert_alike(test, house, told, [(gifts_to, roads.gifts_to)], thing, name)
    end = ended(lambda: gifts_to(told, thing, name))
    found = ended(lambda: asked_twice(test, lambda: roads.road(house, thing, name)))
    if end[0] != "told" or end[1] is None:
        test.assertEqual(found, end)
        return
    assert_way(test, told, thing, found[1])
    test.assertEqual(found[1][-1], name)
    test.assertEqual(len(found[1]) - 1, end[1])


def assert_all(test, house, told):
    """Every question, of all there is and of some that there isn't."""
    names = [*told["people"], *list(told["things"])[:2], *NO_NAMES]
    things_asked = [*told["things"], *list(told["people"])[:2], *NO_NAMES]
    assert_of_all(test, house, told)
    for name in names:
        assert_of_person(test, house, told, name)
        for other in names:
            assert_of_pair(test, house, told, name, other)
    for thing in things_asked:
        assert_of_thing(test, house, told, thing)
        for name in names:
            assert_of_road(test, house, told, thing, name)
    many = len(told["gifts"])
    for number in (*range(-2, many + 2), 10 ** 59, -10 ** 59):
        assert_alike(test, house, told, [(could_answer, asks.could_answer)], number)
