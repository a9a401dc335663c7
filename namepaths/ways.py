"""Ways of a look: its beginnings, the ways that find a name, the ways that are owed by an open question."""

from namepaths.errors import Tangled
from namepaths.goals import goal
from namepaths.tables import has_end, next_state

MOST_BEGINNINGS = 200


def beginnings(net, answers, table, scope, state):
    """Each beginning of the look as (marks, scope come to, state come to), sorted; Tangled where they are too many."""
    found = [([], scope, state)]
    place = 0
    # Counted as they come: of a tangled net all of them could never be listed.
    while place < len(found):
        found.extend(longer_by_a_step(net, answers, table, found[place]))
        if len(found) > MOST_BEGINNINGS:
            raise Tangled("a look with more than two hundred beginnings")
        place += 1
    return sorted(found)


def found_ways(net, answers, table, scope, state, name):
    """Each way of the look to a telling of the name, sorted."""
    return found_behind(net, table, beginnings(net, answers, table, scope, state), name)


def owed_ways(net, answers, table, scope, state):
    """Each way of the look to a step whose goal is open, as (marks, question), sorted."""
    return owed_behind(net, answers, table, beginnings(net, answers, table, scope, state))


def found_behind(net, table, begun, name):
    """The found ways of a look whose beginnings are these."""
    ways = []
    for marks, last, then in begun:
        for index, telling in enumerate(net[0][last][1]):
            if telling[1] == name and has_end(table, then, telling[0]):
                ways.append(marks + [(last, "told", index)])
    return sorted(ways)


def owed_behind(net, answers, table, begun):
    """The owed ways of a look whose beginnings are these."""
    ways = []
    for marks, last, then in begun:
        for mark, kind, number, after in steps_gone(net, answers, table, last, then):
            if kind == "open":
                ways.append((marks + [mark], number))
    return sorted(ways)


def longer_by_a_step(net, answers, table, beginning):
    """The beginnings that have just one step more than this one."""
    marks, last, then = beginning
    # A step's mark has the scope that the step was gone from.
    come_to = [mark[0] for mark in marks] + [last]
    longer = []
    for mark, kind, number, after in steps_gone(net, answers, table, last, then):
        if kind == "to" and number not in come_to:
            longer.append((marks + [mark], number, after))
    return longer


def steps_gone(net, answers, table, scope, state):
    """The scope's steps by which the state goes, as (mark, goal's kind, goal's number, state that comes then)."""
    gone = []
    for index, step in enumerate(net[0][scope][0]):
        after = next_state(table, state, step[0])
        if after is not None:
            kind, number = goal(net, answers, step)
            gone.append(((scope, "step", index), kind, number, after))
    return gone
