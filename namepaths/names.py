"""What a whole number is and what a name is, asked of anything; what numbers there are of so many."""

LONGEST_NAME = 8


def is_whole(thing):
    """True where the thing is an int and no truth."""
    return isinstance(thing, int) and not isinstance(thing, bool)


def is_name(thing):
    """True where the thing is a text of one to eight small letters."""
    if not isinstance(thing, str) or not 1 <= len(thing) <= LONGEST_NAME:
        return False
    # Held against a and z one by one: Python's own islower takes letters of every alphabet.
    return all(["a" <= sign <= "z" for sign in thing])


def is_place(number, many):
    """True where this is the number of one of so many, numbered from 0."""
    return is_whole(number) and 0 <= number < many
