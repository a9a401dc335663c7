"""Tables as texts, in words with one blank between: written and read."""

from namepaths.errors import NoText
from namepaths.tables import table_of
from namepaths.words import parted, read_number, with_between

SIGNS = ("/", "|", ",", ":")


def show_table(table):
    """The table as a text."""
    states, inner, order = table
    words = with_between([words_of_state(goes, ends) for goes, ends in states], "/")
    pairs = with_between([[better, worse] for better, worse in next_pairs(order)], ",")
    return " ".join(words + ["|", str(inner), "|"] + pairs)


def read_table(text):
    """The table that is written so; NoText, or what a table's parts are refused with."""
    if not isinstance(text, str):
        raise NoText("no text")
    parts = parted(text.split(" "), "|")
    if len(parts) != 3 or len(parts[1]) != 1:
        raise NoText("no states, inner and pairs with | between")
    states = [read_state(words) for words in parted(parts[0], "/")]
    inner = read_number(parts[1][0])
    pairs = [(read_label(better), read_label(worse)) for better, worse in read_twos(parts[2])]
    return table_of(states, inner, pairs)


def words_of_state(goes, ends):
    return with_between([[label, str(number)] for label, number in goes], ",") + [":"] + ends


def next_pairs(order):
    """Those pairs of the order that have nothing between them: the others follow from these."""
    known = dict([(pair, True) for pair in order])
    labels = sorted(set([better for better, worse in order]))
    pairs = []
    for better, worse in order:
        if not any([(better, label) in known and (label, worse) in known for label in labels]):
            pairs.append((better, worse))
    return sorted(pairs)


def read_state(words):
    """The state as (goes, ends)."""
    parts = parted(words, ":")
    if len(parts) != 2:
        raise NoText("no goes and ends with : between")
    goes = [(read_label(label), read_number(number)) for label, number in read_twos(parts[0])]
    return (goes, [read_label(label) for label in parts[1]])


def read_twos(words):
    """Groups of two words with , between; none where there are no words."""
    if not words:
        return []
    groups = parted(words, ",")
    if any([len(group) != 2 for group in groups]):
        raise NoText("no two words with , between them and the next two")
    return groups


def read_label(word):
    """Any word but a sign; whether it is a name is the table's affair."""
    if word in SIGNS:
        raise NoText("a sign where a label is due")
    return word
