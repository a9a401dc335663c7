"""For what each open question waits, and the ring to which they come."""

from namepaths.finds import find


def waits(net, answers, table):
    """For each question the one for which it waits, None where it is answered."""
    return [waited_for(net, answers, table, question) for question in range(len(answers))]


def ring_of(net, answers, table):
    """The questions that come again and again, from the least open one on; [] where none is open."""
    waiting = waits(net, answers, table)
    still_open = [question for question, other in enumerate(waiting) if other is not None]
    if not still_open:
        return []
    row = [still_open[0]]
    while waiting[row[-1]] not in row:
        row.append(waiting[row[-1]])
    ring = row[row.index(waiting[row[-1]]):]
    least = ring.index(min(ring))
    return ring[least:] + ring[:least]


def waited_for(net, answers, table, question):
    """The question for which this one waits, None where it is answered."""
    if answers[question] is not None:
        return None
    at, way, other = find(net, answers, table, question)[1]
    return other
