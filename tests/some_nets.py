"""Nets for tests: rows of scopes, and nets of all shapes with answers and a table."""

from namepaths.errors import Ring
from namepaths.nets import net_of
from namepaths.tables import table_of, usual

LABELS = ("all", "allon", "elder", "let", "open", "own", "up")
NAMES = ("far", "x")


def row_of_scopes(counts, label="up"):
    """Scopes 0, 1, ..: from each one so many steps to the next, none from the last."""
    scopes = [([(label, "to", number + 1)] * count, []) for number, count in enumerate(counts)]
    return scopes + [([], [])]


def two_hundred():
    """A row of scopes with just two hundred beginnings by up from scope 0: 1 + 1 + 6 + 48 + 144."""
    return row_of_scopes((1, 6, 8, 3))


def some_step(chance, scopes, questions):
    if chance.random() < 0.6:
        return (chance.choice(LABELS), "to", chance.randrange(scopes))
    return (chance.choice(LABELS), "by", chance.randrange(questions))


def some_telling(chance, things, questions):
    if chance.random() < 0.6:
        return (chance.choice(LABELS), chance.choice(NAMES), "thing", chance.randrange(things))
    return (chance.choice(LABELS), chance.choice(NAMES), "by", chance.randrange(questions))


def some_thing(chance, scopes, questions):
    kind = chance.choice(("plain", "part", "part", "sort"))
    return (kind, {"plain": 0, "part": chance.randrange(scopes), "sort": chance.randrange(questions)}[kind])


def some_answer(chance, things):
    kind = chance.choice(("open", "thing", "thing", "none", "torn"))
    if kind == "open":
        return None
    return (kind, chance.randrange(things) if kind == "thing" else 0)


def some_net(chance):
    """A net and answers of it."""
    scopes, things, questions = chance.randint(1, 6), chance.randint(1, 5), chance.randint(1, 4)
    net = net_of(
        [([some_step(chance, scopes, questions) for _ in range(chance.randint(1, 5))],
          [some_telling(chance, things, questions) for _ in range(chance.randint(1, 5))]) for _ in range(scopes)],
        [some_thing(chance, scopes, questions) for _ in range(things)],
        [(chance.randrange(scopes), 0, ("x",)) for _ in range(questions)])
    return net, [some_answer(chance, things) for _ in range(questions)]


def some_table(chance):
    if chance.random() < 0.2:
        return usual()
    states = chance.randint(1, 3)
    # Drawn once: many pairs often have a ring, and are then drawn again, no fewer of them.
    pairs = chance.randint(0, 8)
    while True:
        try:
            return table_of(
                [([(label, chance.randrange(states)) for label in LABELS if chance.random() < 0.85],
                  [label for label in LABELS if chance.random() < 0.85]) for _ in range(states)],
                chance.randrange(states),
                [(chance.choice(LABELS), chance.choice(LABELS)) for _ in range(pairs)])
        except Ring:
            pass


def some_path(chance):
    return tuple(chance.choice(NAMES) for _ in range(chance.choice((1, 1, 1, 2, 2, 3, 4, 6))))


def asking_net(chance, table, questions=6, many=5):
    """A net whose questions have paths of several names, from states of the table; sparser than some_net's."""
    scopes, things = chance.randint(1, many), chance.randint(1, 6)
    questions = chance.randint(1, questions)
    return net_of(
        [([some_step(chance, scopes, questions) for _ in range(chance.randint(0, 3))],
          [some_telling(chance, things, questions) for _ in range(chance.randint(0, 3))]) for _ in range(scopes)],
        [some_thing(chance, scopes, questions) for _ in range(things)],
        [(chance.randrange(scopes), chance.randrange(len(table[0])), some_path(chance)) for _ in range(questions)])


def some_answers(chance, net):
    """Answers of the net: of things and names that there are."""
    answers = []
    for scope, state, path in net[2]:
        kind, number = some_answer(chance, len(net[1])) or (None, None)
        if kind in ("none", "torn"):
            number = chance.randrange(len(path))
        answers.append(None if kind is None else (kind, number))
    return answers
