"""The standstill: the answers to which a net's questions come, turn by turn."""

from namepaths.looks import look_up
from namepaths.walked import questions_of


def still(net, table):
    """(answers, turns): turns has the number of the turn that found the answer, 0 for what is left open."""
    many = len(net[2])
    return settled(net, table, [None] * many, list(range(many)))


def settled(net, table, known, those):
    """The standstill, where those questions are open at first and the others have the answers that are known."""
    answers = [None if question in those else answer for question, answer in enumerate(known)]
    turns = [0] * len(answers)
    uses = {}
    due = those
    turn = 0
    # Tangled in a turn is tangled at the end too: with more answers a look has all its beginnings, and maybe more.
    while due:
        turn += 1
        found = found_in_turn(net, answers, table, due, uses)
        for question, answer in found:
            answers[question] = answer
            turns[question] = turn
        new = dict(found)
        # What uses no new answer would be found open again.
        due = [question for question in those if answers[question] is None and uses_one(uses[question], new)]
    refuse_tangled(net, answers, table, [question for question in those if answers[question] is not None])
    return (answers, turns)


def found_in_turn(net, answers, table, due, uses):
    """The answers found for those that are due, as (question, answer); of the others it notes what they use."""
    found = []
    for question in due:
        answer, wait, looks, things = look_up(net, answers, table, net[2][question])
        if answer is None:
            uses[question] = questions_of(net, answers, table, looks, things)
        else:
            found.append((question, answer))
    return found


def uses_one(questions, new):
    """True where one of the questions is among the new ones."""
    return any([question in new for question in questions])


def refuse_tangled(net, answers, table, answered):
    # Behind the turn that found their answer their looks may have got more beginnings; those of open ones were seen.
    for question in answered:
        look_up(net, answers, table, net[2][question])
