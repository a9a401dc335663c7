"""The items of which programs are made."""


class Item:
    """Any item of a program."""


class Part(Item):
    """A part, told by its name, with items within it."""

    def __init__(self, reach, name, items):
        self.reach = reach
        self.name = name
        self.inner = list(items)


class Thing(Item):
    """A thing, told by its name; of is the path of its sort, None where it has none."""

    def __init__(self, reach, name, of=None):
        self.reach = reach
        self.name = name
        self.of = of


class Let(Item):
    """A thing that is told to what comes behind it alone; of as with Thing."""

    def __init__(self, name, of=None):
        self.name = name
        self.of = of


class Elder(Item):
    """A part from which what is told openly is had."""

    def __init__(self, path):
        self.path = path


class All(Item):
    """A part of which all that is open is brought in; handed on too, where on is True."""

    def __init__(self, path, on=False):
        self.path = path
        self.on = on


class One(Item):
    """One thing brought in under a name."""

    def __init__(self, reach, name, path):
        self.reach = reach
        self.name = name
        self.path = path


class Ask(Item):
    """A path whose meaning is asked."""

    def __init__(self, path):
        self.path = path
