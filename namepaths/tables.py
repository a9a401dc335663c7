"""Tables: which steps may be gone in which state, what may be found there, and what is better."""

from namepaths.errors import NoName, NoPlace, TooGreat, Twice
from namepaths.names import is_name, is_place
from namepaths.orders import order_of

MOST_STATES = 8
MOST_GOES = 8
MOST_ENDS = 8
MOST_PAIRS = 40


def table_of(states, inner, pairs):
    """The table of these parts; refused with the first refusal that is due, wherever in the parts it is."""
    refuse_too_great(states, pairs)
    refuse_no_names(states, pairs)
    refuse_no_places(states, inner)
    refuse_twice(states)
    order = order_of(pairs)
    return ([sorted_state(goes, ends) for goes, ends in states], inner, order)


def next_state(table, state, label):
    """The state that comes behind a step of this label; None where the state doesn't go by it."""
    goes = table[0][state][0]
    for known, number in goes:
        if known == label:
            return number
    return None


def has_end(table, state, label):
    """True where tellings of this label may be found in the state."""
    ends = table[0][state][1]
    return label in ends


def usual():
    """The usual table, made anew by each call."""
    states = [
        ([("all", 1), ("allon", 1), ("elder", 1), ("up", 0)], ["let", "open", "own"]),
        ([("allon", 1), ("elder", 1)], ["open"]),
        ([("up", 0)], ["let", "open", "own"]),
    ]
    pairs = [
        ("let", "elder"), ("open", "elder"), ("own", "elder"),
        ("elder", "all"), ("elder", "allon"),
        ("all", "up"), ("allon", "up"),
    ]
    return table_of(states, 1, pairs)


def refuse_too_great(states, pairs):
    if len(states) > MOST_STATES:
        raise TooGreat("more than eight states")
    for goes, ends in states:
        if len(goes) > MOST_GOES:
            raise TooGreat("more than eight goes of a state")
        if len(ends) > MOST_ENDS:
            raise TooGreat("more than eight ends of a state")
    if len(pairs) > MOST_PAIRS:
        raise TooGreat("more than forty pairs")


def refuse_no_names(states, pairs):
    for label in labels_told(states, pairs):
        if not is_name(label):
            raise NoName("a label that is no name")


def labels_told(states, pairs):
    """Every label of the parts of a table, as often as it is told."""
    labels = []
    for goes, ends in states:
        labels.extend(labels_of(goes))
        labels.extend(ends)
    for better, worse in pairs:
        labels.append(better)
        labels.append(worse)
    return labels


def labels_of(goes):
    return [label for label, number in goes]


def refuse_no_places(states, inner):
    if not states:
        raise NoPlace("no states at all")
    if not is_place(inner, len(states)):
        raise NoPlace("an inner that is no state's number")
    for goes, ends in states:
        for label, number in goes:
            if not is_place(number, len(states)):
                raise NoPlace("a next that is no state's number")


def refuse_twice(states):
    for goes, ends in states:
        if is_one_twice(labels_of(goes)):
            raise Twice("a label twice in the goes of a state")
        if is_one_twice(ends):
            raise Twice("a label twice in the ends of a state")


def is_one_twice(labels):
    return len(set(labels)) < len(labels)


def sorted_state(goes, ends):
    return (sorted([(label, number) for label, number in goes]), sorted(ends))
