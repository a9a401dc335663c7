"""Programs as texts, in words with one blank between: written and read."""

from namepaths.errors import NoText
from namepaths.items import All, Ask, Elder, Let, One, Part, Thing
from namepaths.names import is_name
from namepaths.words import read_path, with_between, written_path

MOST_BRACKETS = 31


def written(program):
    """The program as a text."""
    return " ".join(words_of(program))


def read(text):
    """The program that is written so, or NoText."""
    if not isinstance(text, str):
        raise NoText("no text")
    if text == "":
        return []
    words = Words(text.split(" "))
    program = read_items(words, 0)
    if words.ahead() is not None:
        raise NoText("words behind a program's end")
    return program


def words_of(program):
    return with_between([words_of_item(item) for item in program], ";")


def words_of_item(item):
    if isinstance(item, Part):
        return ["part", item.reach, item.name, "("] + words_of(item.inner) + [")"]
    if isinstance(item, Thing):
        return ["thing", item.reach, item.name] + words_of_sort(item.of)
    if isinstance(item, Let):
        return ["let", item.name] + words_of_sort(item.of)
    if isinstance(item, Elder):
        return ["elder", written_path(item.path)]
    if isinstance(item, All):
        return (["all", "on"] if item.on else ["all"]) + [written_path(item.path)]
    if isinstance(item, One):
        return ["one", item.reach, item.name, "from", written_path(item.path)]
    return ["ask", written_path(item.path)]


def words_of_sort(path):
    if path is None:
        return []
    return ["of", written_path(path)]


class Words:
    """Words that are taken one by one."""

    def __init__(self, words):
        self.words = words
        self.place = 0

    def ahead(self):
        """The next word, None at the end."""
        if self.place == len(self.words):
            return None
        return self.words[self.place]

    def taken(self):
        """The next word, which is then behind; NoText at the end."""
        word = self.ahead()
        if word is None:
            raise NoText("a word is wanting at the end")
        self.place += 1
        return word

    def skip(self, due):
        """The next word, which is to be this one."""
        if self.taken() != due:
            raise NoText("another word than is due")


def read_items(words, brackets):
    """One or more items, where so many brackets are open."""
    program = [read_item(words, brackets)]
    while words.ahead() == ";":
        words.skip(";")
        program.append(read_item(words, brackets))
    return program


def read_item(words, brackets):
    word = words.taken()
    if word == "part":
        return read_part(words, brackets)
    if word == "thing":
        reach = taken_reach(words)
        name = taken_name(words)
        return Thing(reach, name, taken_sort(words))
    if word == "let":
        name = taken_name(words)
        return Let(name, taken_sort(words))
    if word == "elder":
        return Elder(read_path(words.taken()))
    if word == "all":
        return read_all(words)
    if word == "one":
        reach = taken_reach(words)
        name = taken_name(words)
        words.skip("from")
        return One(reach, name, read_path(words.taken()))
    if word == "ask":
        return Ask(read_path(words.taken()))
    raise NoText("an item that begins with another word than is due")


def read_part(words, brackets):
    reach = taken_reach(words)
    name = taken_name(words)
    words.skip("(")
    if brackets == MOST_BRACKETS:
        raise NoText("more than thirty-one brackets open")
    inner = []
    if words.ahead() != ")":
        inner = read_items(words, brackets + 1)
    words.skip(")")
    return Part(reach, name, inner)


def read_all(words):
    word = words.taken()
    # Where nothing of the item comes behind it, on is the path itself.
    if word == "on" and words.ahead() not in (None, ";", ")"):
        return All(read_path(words.taken()), True)
    return All(read_path(word), False)


def taken_reach(words):
    reach = words.taken()
    if reach not in ("open", "own"):
        raise NoText("a reach that is none")
    return reach


def taken_name(words):
    name = words.taken()
    if not is_name(name):
        raise NoText("a name that is none")
    return name


def taken_sort(words):
    """The path behind of; None where there is no of."""
    if words.ahead() != "of":
        return None
    words.skip("of")
    return read_path(words.taken())
