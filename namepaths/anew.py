"""A telling named anew, with each name that is seen by it alone."""

from namepaths.errors import Caught, NoName, NoPlace
from namepaths.finds import trail
from namepaths.names import is_name, is_place
from namepaths.nets import net_of
from namepaths.still import still


def renamed(net, table, scope, index, name):
    """The net in which the scope's telling of this index has the new name; refused where something else is seen."""
    refuse_no_telling(net, scope, index)
    if not is_name(name):
        raise NoName("a new name that is none")
    answers = still(net, table)[0]
    trails = all_trails(net, answers, table)
    new = named_anew(net, trails, scope, index, name)
    new_answers = still(new, table)[0]
    new_trails = all_trails(new, new_answers, table)
    for question in range(len(answers)):
        if answers[question] != new_answers[question] or trails[question] != new_trails[question]:
            raise Caught(question, trails[question], new_trails[question])
    return new


def refuse_no_telling(net, scope, index):
    if not is_place(scope, len(net[0])) or not is_place(index, len(net[0][scope][1])):
        raise NoPlace("a scope or a telling that isn't there")


def all_trails(net, answers, table):
    """The trail of each question."""
    return [trail(net, answers, table, question) for question in range(len(answers))]


def named_anew(net, trails, scope, index, name):
    """The net with the telling's new name, in the paths too; the trails are those of its questions."""
    scopes, things, questions = net
    steps, tellings = scopes[scope]
    label, old_name, kind, number = tellings[index]
    told = tellings[:index] + [(label, name, kind, number)] + tellings[index + 1:]
    mark = (scope, "told", index)
    paths = [path_anew(question[2], seen, mark, name) for question, seen in zip(questions, trails)]
    asked = [(question[0], question[1], path) for question, path in zip(questions, paths)]
    return net_of(scopes[:scope] + [(steps, told)] + scopes[scope + 1:], things, asked)


def path_anew(path, trail_of_path, mark, name):
    """The path, with the new name where all seen ways of a name, and there are some, end at the mark."""
    names = list(path)
    for at, seen in enumerate(trail_of_path):
        if seen and all([way[-1] == mark for way in seen]):
            names[at] = name
    return tuple(names)
