"""What is found for a question, and the ways by which its names are seen."""

from namepaths.looks import look_up


def find(net, answers, table, question):
    """(answer, wait): an open question has the answer None and the wait (at, way, question), others no wait."""
    answer, wait, looks, things = look_up(net, answers, table, net[2][question])
    return (answer, wait)


def trail(net, answers, table, question):
    """For each name of the question that is looked for its seen ways."""
    answer, wait, looks, things = look_up(net, answers, table, net[2][question])
    return [seen for begun, found, seen in looks]
