"""Words of texts: numbers, paths, and groups of words with a sign between them."""

from namepaths.errors import NoText
from namepaths.names import is_name
from namepaths.nets import LONGEST_PATH

MOST_FIGURES = 4


def read_number(word):
    """The whole number that is written so; NoText where it is none, or is written otherwise."""
    if not 1 <= len(word) <= MOST_FIGURES or (word[0] == "0" and word != "0"):
        raise NoText("a number that isn't written as it should be")
    # Held against 0 and 9 one by one: Python's own isdigit and int take figures of every alphabet.
    if not all(["0" <= sign <= "9" for sign in word]):
        raise NoText("a number that isn't written in figures")
    return int(word)


def read_path(word):
    """The path that is written so, as a tuple of names; NoText where it is none."""
    names = word.split(".")
    if len(names) > LONGEST_PATH or not all([is_name(name) for name in names]):
        raise NoText("a path that is none")
    return tuple(names)


def written_path(path):
    return ".".join(path)


def with_between(groups, sign):
    """All words of the groups in one list, with the sign between each group and the next."""
    words = []
    for number, group in enumerate(groups):
        if number > 0:
            words.append(sign)
        words.extend(group)
    return words


def parted(words, sign):
    """The groups of words, perhaps empty ones, between which the sign stands."""
    groups = [[]]
    for word in words:
        if word == sign:
            groups.append([])
        else:
            groups[-1].append(word)
    return groups
