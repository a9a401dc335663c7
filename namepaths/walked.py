"""On what it hangs what is found for a question: the scopes that it walks, the questions that it uses."""

from namepaths.looks import look_up
from namepaths.nets import telling_at
from namepaths.tables import next_state


def walked(net, answers, table, question):
    """The scopes to which its looks come, as the sum of 1 << scope."""
    answer, wait, looks, things = look_up(net, answers, table, net[2][question])
    return scopes_of(looks)


def used(net, answers, table, question):
    """The numbers of the questions that it uses, sorted, each once."""
    answer, wait, looks, things = look_up(net, answers, table, net[2][question])
    return questions_of(net, answers, table, looks, things)


def scopes_of(looks):
    """The scopes to which these looks come, as a sum."""
    scopes = 0
    for begun, found, seen in looks:
        for marks, last, then in begun:
            scopes = scopes | (1 << last)
    return scopes


def questions_of(net, answers, table, looks, things):
    """The questions that these looks use, the insides of these things being asked."""
    questions = []
    for begun, found, seen in looks:
        questions.extend(of_steps(net, answers, table, begun))
        questions.extend(of_tellings(net, found))
    for thing in things:
        questions.extend(of_sort(net, thing))
    return sorted(set(questions))


def of_steps(net, answers, table, begun):
    """The questions that tell where the steps go by which the beginnings may go on."""
    questions = []
    for marks, last, then in begun:
        for label, kind, number in net[0][last][0]:
            if kind == "by" and next_state(table, then, label) is not None:
                questions.append(number)
                questions.extend(of_answer(net, answers[number]))
    return questions


def of_tellings(net, found):
    """The questions that tell what the tellings at the ends of the ways mean."""
    questions = []
    for way in found:
        label, name, kind, number = telling_at(net, way[-1])
        if kind == "by":
            questions.append(number)
    return questions


def of_answer(net, answer):
    """The sort's question of the thing that is the answer, where it is one that has a sort."""
    if answer is None or answer[0] != "thing":
        return []
    return of_sort(net, answer[1])


def of_sort(net, thing):
    """The sort's question of the thing, where it has a sort."""
    kind, number = net[1][thing]
    if kind == "sort":
        return [number]
    return []
