"""What is kept and what is given, in lists of its own."""


def own_lists(thing):
    """The same again, its lists and those in it new ones, so that nobody else can change them."""
    if isinstance(thing, list):
        return [own_lists(part) for part in thing]
    if isinstance(thing, tuple):
        return tuple([own_lists(part) for part in thing])
    return thing
