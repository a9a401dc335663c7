"""The desk: rows of words that are told and answered with texts."""

from namepaths.anew import renamed
from namepaths.errors import NoPlace, NoRow
from namepaths.finds import trail
from namepaths.gaps import may_stand
from namepaths.house import House
from namepaths.laying import net_by
from namepaths.names import is_place
from namepaths.rings import ring_of, waited_for
from namepaths.tables import usual
from namepaths.tabletexts import read_table
from namepaths.texts import read
from namepaths.words import read_number, read_path, with_between

DONE = "ok"
NOTHING = "-"


def say_mean(house, table, values):
    question = question_there(house, values)
    answer = house.answers()[question]
    if answer is None:
        return "open"
    kind, number = answer
    return f"{kind} {number}"


def say_ways(house, table, values):
    question = question_there(house, values)
    names = trail(house.net(), house.answers(), table, question)
    return " ".join(with_between([words_of_name(seen) for seen in names], "/"))


def say_wait(house, table, values):
    question = question_there(house, values)
    other = waited_for(house.net(), house.answers(), table, question)
    return NOTHING if other is None else str(other)


def say_ring(house, table, values):
    return words_or_nothing(numbers_written(ring_of(house.net(), house.answers(), table)))


def say_gone(house, table, values):
    return words_or_nothing(numbers_written(house.gone()))


def say_gap(house, table, values):
    scope, state = values
    net = house.net()
    if not is_place(scope, len(net[0])) or not is_place(state, len(table[0])):
        raise NoPlace("a scope or a state that isn't there")
    standing = may_stand(net, house.answers(), table, scope, state)
    return words_or_nothing(with_between([[name, str(number)] for name, number in standing], ","))


def say_net(house, table, values):
    return " ".join(numbers_written([len(parts) for parts in house.net()]))


def do_tell(house, table, values):
    scope, label, name, kind, number = values
    house.tell(scope, (label, name, kind, number))
    return DONE


def do_step(house, table, values):
    scope, label, kind, number = values
    house.step(scope, (label, kind, number))
    return DONE


def do_untell(house, table, values):
    scope, index = values
    house.untell(scope, index)
    return DONE


def do_unstep(house, table, values):
    scope, index = values
    house.unstep(scope, index)
    return DONE


def do_room(house, table, values):
    return str(house.room())


def do_thing(house, table, values):
    kind, number = values
    return str(house.thing(kind, number))


def do_ask(house, table, values):
    scope, state, path = values
    return str(house.ask(scope, path, state))


# For each row that asks the house or does a deed: what its words behind the first one are, and what answers it.
ROWS = {
    "mean": (("number",), say_mean),
    "ways": (("number",), say_ways),
    "wait": (("number",), say_wait),
    "ring": ((), say_ring),
    "gone": ((), say_gone),
    "gap": (("number", "number"), say_gap),
    "net": ((), say_net),
    "tell": (("number", "word", "word", "word", "number"), do_tell),
    "step": (("number", "word", "word", "number"), do_step),
    "untell": (("number", "number"), do_untell),
    "unstep": (("number", "number"), do_unstep),
    "room": ((), do_room),
    "thing": (("word", "number"), do_thing),
    "ask": (("number", "number", "path"), do_ask),
}


class Desk:
    """A table and a house, asked and changed by rows; a row that is refused changes nothing."""

    def __init__(self):
        self.kept_table = usual()
        self.kept_house = House(net_by([]), self.kept_table)

    def say(self, row):
        """The answer to the row, or a refusal."""
        if not isinstance(row, str):
            raise NoRow("no text")
        first, blank, text = row.partition(" ")
        if blank and first == "table":
            return self.begin(self.kept_house.net(), read_table(text))
        if blank and first == "program":
            return self.begin(net_by(read(text)), self.kept_table)
        words = row.split(" ")[1:]
        if first == "anew":
            scope, index, name = values_of(("number", "number", "word"), words)
            table = self.kept_table
            return self.begin(renamed(self.kept_house.net(), table, scope, index, name), table)
        if first not in ROWS:
            raise NoRow("a row that begins with another word than is due")
        kinds, answer = ROWS[first]
        return answer(self.kept_house, self.kept_table, values_of(kinds, words))

    def begin(self, net, table):
        """The house of this net with this table in the place of the one that was there."""
        # The house may be refused: then the table stays, too.
        self.kept_house = House(net, table)
        self.kept_table = table
        return DONE


def values_of(kinds, words):
    """The values that are written by the words; NoRow where they are more or fewer than the kinds."""
    if len(words) != len(kinds):
        raise NoRow("a row of more or fewer words than are due")
    return [value_of(kind, word) for kind, word in zip(kinds, words)]


def value_of(kind, word):
    if kind == "number":
        return read_number(word)
    if kind == "path":
        return read_path(word)
    return word


def question_there(house, values):
    """The number that is the one value, where there is such a question."""
    question = values[0]
    if not is_place(question, len(house.answers())):
        raise NoPlace("a question that isn't there")
    return question


def words_of_name(seen):
    """The words of the seen ways of a name."""
    if not seen:
        return [NOTHING]
    return with_between([words_of_way(way) for way in seen], ";")


def words_of_way(way):
    return with_between([[str(scope), kind, str(index)] for scope, kind, index in way], ",")


def numbers_written(numbers):
    return [str(number) for number in numbers]


def words_or_nothing(words):
    if not words:
        return NOTHING
    return " ".join(words)
