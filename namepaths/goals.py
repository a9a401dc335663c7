"""What is in a thing and where a step goes, with the answers that are there."""


def inside(net, answers, thing):
    """Of a thing's number: ("to", scope), ("open", question) or ("no", 0)."""
    kind, number = net[1][thing]
    if kind == "part":
        return ("to", number)
    if kind == "sort":
        return inside_of_sort(net, answers, number)
    return ("no", 0)


def goal(net, answers, step):
    """Of a step: ("to", scope), ("open", question) or ("no", 0)."""
    label, kind, number = step
    if kind == "to":
        return ("to", number)
    answer = answers[number]
    if answer is None:
        return ("open", number)
    if answer[0] == "thing":
        return inside(net, answers, answer[1])
    return ("no", 0)


def inside_of_sort(net, answers, question):
    """The inside of the thing that answers the question, where that is a part."""
    answer = answers[question]
    if answer is None:
        return ("open", question)
    if answer[0] == "thing":
        kind, number = net[1][answer[1]]
        # One sort is looked through, no more: a thing with a sort of its own has nothing in it here.
        if kind == "part":
            return ("to", number)
    return ("no", 0)
