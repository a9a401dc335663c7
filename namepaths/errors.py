"""The refusals: each one is a class of its own under PathError."""

from namepaths.copies import own_lists


class PathError(ValueError):
    """Any refusal."""


class TooGreat(PathError):
    """More than a bound allows."""


class NoName(PathError):
    """What should be a name is none."""


class NoPlace(PathError):
    """A number or a kind that stands for nothing there is."""


class Twice(PathError):
    """A label twice where it may be once."""


class Tangled(PathError):
    """A look with too many beginnings."""


class NoText(PathError):
    """What isn't written as it should be."""


class NoRow(PathError):
    """A row that a desk doesn't know."""


class Ring(PathError):
    """Labels that are better than themselves; ring shows how."""

    def __init__(self, ring):
        PathError.__init__(self, f"labels in a ring, each better than the next: {ring}")
        self.ring = own_lists(ring)


class Caught(PathError):
    """A new name that changes what a question finds."""

    def __init__(self, question, before, after):
        PathError.__init__(self, f"the new name changes what question {question} finds")
        self.question = question
        self.before = own_lists(before)
        self.after = own_lists(after)
