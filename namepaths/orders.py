"""Orders of labels: what follows from pairs (better, worse), and what leads to it."""

from namepaths.errors import Ring


def order_of(pairs):
    """All that follows from the pairs, sorted; Ring where a label would be better than itself."""
    order = all_that_follows(pairs)
    for better, worse in order:
        if better == worse:
            raise Ring(chain(pairs, better, better)[:-1])
    return order


def chain(pairs, one, other):
    """Labels from one to the other, each with the next a told pair; None where nothing leads there."""
    came_from = reached(worse_by_better(pairs), one)
    if other not in came_from:
        return None
    labels = [other]
    label = came_from[other]
    while label != one:
        labels.append(label)
        label = came_from[label]
    labels.append(one)
    labels.reverse()
    return labels


def judge(pairs):
    """A function of two labels: does the first with the second follow from the pairs."""
    # Worked out here, not when asked, so that a later change of the pairs changes nothing.
    known = dict([(pair, True) for pair in all_that_follows(pairs)])

    def is_better(one, other):
        return (one, other) in known

    return is_better


def all_that_follows(pairs):
    """What follows from the pairs, sorted, each once, a label with itself too where a ring leads back."""
    worse_labels = worse_by_better(pairs)
    order = []
    for better in sorted(worse_labels):
        for worse in sorted(reached(worse_labels, better)):
            order.append((better, worse))
    return order


def worse_by_better(pairs):
    """For each better label the list of those told as worse."""
    worse_labels = {}
    for better, worse in pairs:
        worse_labels.setdefault(better, []).append(worse)
    return worse_labels


def reached(worse_labels, start):
    """Each label that one or more pairs lead to from start, with the label from which it was come to first."""
    came_from = {}
    # Layer by layer: who comes first to a label comes by the fewest pairs, so no label twice on the way.
    layer = [start]
    while layer:
        further = []
        for better in layer:
            for worse in worse_labels.get(better, []):
                if worse not in came_from:
                    came_from[worse] = better
                    further.append(worse)
        layer = further
    return came_from
