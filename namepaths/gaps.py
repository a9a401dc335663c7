"""What may stand at a gap: the names that, asked there, are answered by a thing."""

from namepaths.looks import look_for, met
from namepaths.ways import beginnings, owed_behind


def may_stand(net, answers, table, scope, state=0):
    """(name, thing) for each such name, sorted; Tangled where the look from there is, even if nothing is told."""
    begun = beginnings(net, answers, table, scope, state)
    owed = owed_behind(net, answers, table, begun)
    standing = []
    for name in names_told(net):
        # All names are looked for behind the same beginnings, and by the same owed ways.
        answer, wait = met(net, answers, table, owed, look_for(net, table, begun, name), 0)
        if answer is not None and answer[0] == "thing":
            standing.append((name, answer[1]))
    return standing


def names_told(net):
    """Each name that is told anywhere in the net, once, sorted."""
    names = []
    for steps, tellings in net[0]:
        names.extend([name for label, name, kind, number in tellings])
    return sorted(set(names))
