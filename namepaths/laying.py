"""A program's net, laid item by item."""

from namepaths.errors import TooGreat
from namepaths.items import All, Elder, Let, One, Part, Thing
from namepaths.nets import net_of

MOST_ITEMS = 200
MOST_AROUND = 30

# The states of the usual table from which questions are asked: anywhere, or from outside what is brought in.
ANYWHERE = 0
OUTSIDE = 2


def net_by(program):
    """The net of the program, or a refusal."""
    refuse_too_great(program)
    ground = Ground()
    lay_items(ground, program, ground.new_scope([], []))
    return net_of(ground.scopes, ground.things, ground.questions)


class Ground:
    """The parts of a net that is being laid, numbered as they come."""

    def __init__(self):
        self.scopes = []
        self.things = []
        self.questions = []

    def new_scope(self, steps, tellings):
        self.scopes.append((steps, tellings))
        return len(self.scopes) - 1

    def new_thing(self, kind, number):
        self.things.append((kind, number))
        return len(self.things) - 1

    def new_question(self, scope, state, path):
        self.questions.append((scope, state, path))
        return len(self.questions) - 1

    def more_steps(self, scope, step):
        self.scopes[scope][0].append(step)

    def more_tellings(self, scope, telling):
        self.scopes[scope][1].append(telling)


def refuse_too_great(program):
    many = 0
    around = 0
    layer = program
    # Layer by layer: however deep a program is, it is left as soon as it is too great.
    while layer:
        many += len(layer)
        if many > MOST_ITEMS:
            raise TooGreat("more than two hundred items")
        if around > MOST_AROUND:
            raise TooGreat("an item within more than thirty others")
        layer = items_within(layer)
        around += 1


def items_within(layer):
    """The items that lie straight within those of the layer."""
    within = []
    for item in layer:
        if isinstance(item, Part):
            within.extend(item.inner)
    return within


def lay_items(ground, program, home):
    here = home
    for item in program:
        here = lay_item(ground, item, home, here)


def lay_item(ground, item, home, here):
    """Lays one item; gives the scope that is here behind it."""
    if isinstance(item, Part):
        lay_part(ground, item, home, here)
    elif isinstance(item, Thing):
        ground.more_tellings(home, (item.reach, item.name, "thing", thing_of(ground, item.of, here)))
    elif isinstance(item, Let):
        thing = thing_of(ground, item.of, here)
        return ground.new_scope([("up", "to", here)], [("let", item.name, "thing", thing)])
    elif isinstance(item, Elder):
        lay_step(ground, "elder", item.path, home)
    elif isinstance(item, All):
        lay_step(ground, "allon" if item.on else "all", item.path, home)
    elif isinstance(item, One):
        question = ground.new_question(home, OUTSIDE, item.path)
        ground.more_tellings(home, (item.reach, item.name, "by", question))
    else:
        ground.new_question(here, ANYWHERE, item.path)
    return here


def lay_part(ground, item, home, here):
    scope = ground.new_scope([("up", "to", here)], [])
    thing = ground.new_thing("part", scope)
    ground.more_tellings(home, (item.reach, item.name, "thing", thing))
    lay_items(ground, item.inner, scope)


def lay_step(ground, label, path, home):
    question = ground.new_question(home, OUTSIDE, path)
    ground.more_steps(home, (label, "by", question))


def thing_of(ground, path, here):
    """A new thing, with a sort where there is a path of one."""
    # A path without names is a path too, which the net refuses.
    if path is None:
        return ground.new_thing("plain", 0)
    return ground.new_thing("sort", ground.new_question(here, ANYWHERE, path))
