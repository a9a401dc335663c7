"""Programs for tests: of all shapes, compared by what is in them, and written in another way."""

from namepaths.items import All, Ask, Elder, Let, One, Part, Thing

WORDS = ("all", "on", "of", "part", "from", "thing", "let", "one", "ask", "elder", "open", "own", "a", "b", "longname")


def fields(item):
    """What an item is: its class and its fields."""
    kept = dict(vars(item))
    if isinstance(item, Part):
        kept["inner"] = all_fields(kept["inner"])
    return item.__class__.__name__, kept


def all_fields(program):
    return [fields(item) for item in program]


def some_path(chance, names):
    return tuple(chance.choice(names) for _ in range(chance.choice((1, 1, 1, 2, 2, 3, 6))))


def some_item(chance, names, deep):
    kind = chance.choice(("part", "part", "thing", "let", "elder", "all", "one", "ask", "ask"))
    reach, name, path = chance.choice(("open", "own")), chance.choice(names), some_path(chance, names)
    of = path if chance.random() < 0.5 else None
    if kind == "part":
        return Part(reach, name, some_program(chance, names, deep - 1) if deep else [])
    if kind == "thing":
        return Thing(reach, name, of)
    if kind == "let":
        return Let(name, of)
    if kind == "elder":
        return Elder(path)
    if kind == "all":
        return All(path, chance.random() < 0.5)
    if kind == "one":
        return One(reach, name, path)
    return Ask(path)


def some_program(chance, names=WORDS, deep=3):
    return [some_item(chance, names, deep) for _ in range(chance.choice((0, 1, 1, 2, 3, 4)))]


def nested(deep, inmost):
    """So many parts, one within the other, and in the inmost these items."""
    program = list(inmost)
    for _ in range(deep):
        program = [Part("open", "a", program)]
    return program


def text_of(program):
    """The text that is due, made by pieces of text."""
    return " ; ".join(text_of_item(item) for item in program)


def text_of_item(item):
    path = ".".join(getattr(item, "path", ()))
    of = "" if getattr(item, "of", None) is None else " of " + ".".join(item.of)
    if isinstance(item, Part):
        within = text_of(item.inner)
        return f"part {item.reach} {item.name} ( {within} )" if within else f"part {item.reach} {item.name} ( )"
    return {
        "Thing": lambda: f"thing {item.reach} {item.name}{of}",
        "Let": lambda: f"let {item.name}{of}",
        "Elder": lambda: f"elder {path}",
        "All": lambda: f"all on {path}" if item.on else f"all {path}",
        "One": lambda: f"one {item.reach} {item.name} from {path}",
        "Ask": lambda: f"ask {path}",
    }[item.__class__.__name__]()
