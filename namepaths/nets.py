"""Nets: scopes with their steps and tellings, things and questions, made and refused."""

from namepaths.errors import NoName, NoPlace, TooGreat
from namepaths.names import is_name, is_place, is_whole

MOST_SCOPES = 40
MOST_THINGS = 80
MOST_QUESTIONS = 60
MOST_STEPS = 8
MOST_TELLINGS = 12
LONGEST_PATH = 6


def net_of(scopes, things, questions):
    """The net of these parts; refused with the first refusal that is due, wherever in the parts it is."""
    refuse_too_great(scopes, things, questions)
    refuse_no_names(scopes, questions)
    refuse_no_places(scopes, things, questions)
    return ([(list(steps), list(tellings)) for steps, tellings in scopes], list(things), list(questions))


def label_at(net, mark):
    """The label of the step or the telling at the mark."""
    scope, kind, index = mark
    steps, tellings = net[0][scope]
    if kind == "step":
        return steps[index][0]
    return tellings[index][0]


def telling_at(net, mark):
    """The telling at a mark of one."""
    scope, kind, index = mark
    tellings = net[0][scope][1]
    return tellings[index]


def refuse_too_great(scopes, things, questions):
    refuse_more(scopes, MOST_SCOPES, "more than forty scopes")
    refuse_more(things, MOST_THINGS, "more than eighty things")
    refuse_more(questions, MOST_QUESTIONS, "more than sixty questions")
    for steps, tellings in scopes:
        refuse_more(steps, MOST_STEPS, "more than eight steps of a scope")
        refuse_more(tellings, MOST_TELLINGS, "more than twelve tellings of a scope")
    for scope, state, path in questions:
        refuse_more(path, LONGEST_PATH, "more than six names of a path")


def refuse_more(parts, most, words):
    if len(parts) > most:
        raise TooGreat(words)


def refuse_no_names(scopes, questions):
    for word in words_told(scopes, questions):
        if not is_name(word):
            raise NoName("a label, a name told or a name of a path that is none")
    for scope, state, path in questions:
        if len(path) == 0:
            raise NoName("a path without names")


def words_told(scopes, questions):
    """Every label and name of the parts of a net, as often as it is told."""
    words = []
    for steps, tellings in scopes:
        for label, kind, number in steps:
            words.append(label)
        for label, name, kind, number in tellings:
            words.append(label)
            words.append(name)
    for scope, state, path in questions:
        words.extend(path)
    return words


def refuse_no_places(scopes, things, questions):
    # For each kind how many numbers it may have; a plain thing has the number 0 alone.
    step_kinds = {"to": len(scopes), "by": len(questions)}
    telling_kinds = {"thing": len(things), "by": len(questions)}
    thing_kinds = {"plain": 1, "part": len(scopes), "sort": len(questions)}
    for steps, tellings in scopes:
        for label, kind, number in steps:
            refuse_no_place(step_kinds, kind, number)
        for label, name, kind, number in tellings:
            refuse_no_place(telling_kinds, kind, number)
    for kind, number in things:
        refuse_no_place(thing_kinds, kind, number)
    for scope, state, path in questions:
        # A net doesn't know its table, so a state is held against 0 alone.
        if not is_place(scope, len(scopes)) or not is_whole(state) or state < 0:
            raise NoPlace("a question's scope or state that is none")


def refuse_no_place(kinds, kind, number):
    if kind not in kinds:
        raise NoPlace("a kind that is none there")
    if not is_place(number, kinds[kind]):
        raise NoPlace("a number of nothing that is there")
