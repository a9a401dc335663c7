"""Looking up: the names of a path looked for one by one, and what is met on the way."""

from namepaths.goals import inside
from namepaths.nets import telling_at
from namepaths.ways import beginnings, found_behind, owed_behind
from namepaths.worth import better_pairs, first_hider, seen_ways, tree_of


def look_up(net, answers, table, asked):
    """Of a question's tuple (scope, state, path): (answer, wait, looks, things).

    Looks has for each name that is looked for a tuple (beginnings, found ways, seen ways); things has the things
    whose inside is asked.
    """
    scope, state, path = asked
    looks = []
    things = []
    for at, name in enumerate(path):
        begun = beginnings(net, answers, table, scope, state)
        looks.append(look_for(net, table, begun, name))
        answer, wait = met(net, answers, table, owed_behind(net, answers, table, begun), looks[-1], at)
        if answer is None or answer[0] != "thing" or at == len(path) - 1:
            return (answer, wait, looks, things)
        things.append(answer[1])
        kind, number = inside(net, answers, answer[1])
        if kind == "open":
            return (None, (at, [], number), looks, things)
        if kind == "no":
            return (("none", at + 1), None, looks, things)
        scope = number
        state = table[1]


def look_for(net, table, begun, name):
    """The look for a name behind these beginnings, as (beginnings, found ways, seen ways)."""
    found = found_behind(net, table, begun, name)
    return (begun, found, seen_ways(net, table, found))


def met(net, answers, table, owed, look, at):
    """What the look, with these owed ways, meets for the name of this number, as (answer, wait)."""
    begun, found, seen = look
    waiting = first_owed(net, table, found, owed)
    if waiting is None:
        waiting = first_open(net, answers, seen)
    if waiting is not None:
        way, question = waiting
        return (None, (at, way, question))
    meanings = [meaning(net, answers, way) for way in seen]
    # No seen way at all and ways that mean nothing come to the same.
    if all([thing is None for thing in meanings]):
        return (("none", at), None)
    if any([thing != meanings[0] for thing in meanings]):
        return (("torn", at), None)
    return (("thing", meanings[0]), None)


def first_owed(net, table, found, owed):
    """The first of the owed ways, with its question, that no found way hides; None where there is none."""
    better = better_pairs(table)
    tree = tree_of(found)
    for way, question in owed:
        if first_hider(net, better, tree, way) is None:
            return (way, question)
    return None


def first_open(net, answers, seen):
    """The first of the seen ways, with its question, whose telling is by an open one; None where there is none."""
    for way in seen:
        label, name, kind, number = telling_at(net, way[-1])
        if kind == "by" and answers[number] is None:
            return (way, number)
    return None


def meaning(net, answers, way):
    """The number of the thing that the way's telling means, None where it means nothing."""
    label, name, kind, number = telling_at(net, way[-1])
    if kind == "thing":
        return number
    kind, number = answers[number]
    if kind == "thing":
        return number
    return None
