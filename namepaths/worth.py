"""What ways are worth: which one hides another one, which ones are seen."""

from namepaths.nets import label_at


def hides(net, table, one, other):
    """True where, at the first place at which they differ, the one's label is better than the other's."""
    for mark, other_mark in zip(one, other):
        if mark != other_mark:
            return (label_at(net, mark), label_at(net, other_mark)) in table[2]
    return False


def seen_ways(net, table, ways):
    """Those of the ways that none of them hides, in their order."""
    better = better_pairs(table)
    tree = tree_of(ways)
    return [list(way) for way in ways if first_hider(net, better, tree, way) is None]


def hidden_ways(net, table, ways):
    """The others as (way, by), by the first seen way that hides it, in their order."""
    better = better_pairs(table)
    seen = seen_ways(net, table, ways)
    tree = tree_of(seen)
    hidden = []
    for way in ways:
        number = first_hider(net, better, tree, way)
        # What is hidden at all is hidden by a seen way, since what hides a hider hides all that it hides.
        if number is not None:
            hidden.append((list(way), list(seen[number])))
    return hidden


def better_pairs(table):
    """The table's order as a dict, since it is asked often."""
    return dict([(pair, True) for pair in table[2]])


def tree_of(ways):
    """The ways laid together: for each mark (number of the first way by it, what comes behind it likewise).

    There may be thousands of ways; so each is held against the marks beside its own, not against each other way.
    """
    tree = {}
    for number, way in enumerate(ways):
        branch = tree
        for mark in way:
            branch = branch.setdefault(mark, (number, {}))[1]
    return tree


def first_hider(net, better, tree, way):
    """The number of the first of the tree's ways that hides this one; None where none does."""
    numbers = []
    branch = tree
    for mark in way:
        label = label_at(net, mark)
        for beside in branch:
            if (label_at(net, beside), label) in better:
                numbers.append(branch[beside][0])
        # Where no way of the tree goes on so, none is left that could hide it further on.
        branch = branch.get(mark, (0, {}))[1]
    return min(numbers, default=None)
