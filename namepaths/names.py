"""What a whole number is and what a name is, asked of anything."""

LONGEST_NAME = 8


def is_whole(thing):
    """True where the thing is an int and no truth."""
    return isinstance(thing, int) and not isinstance(thing, bool)


def is_name(thing):
    """True where the thing is a text of one to eight small letters."""
    if not isinstance(thing, str) or not 1 <= len(thing) <= LONGEST_NAME:
        return False
    # Held against a and z one by one: Python's own islower takes letters of every alphabet.
    return all(["a" <= sign <= "z" for sign in thing])
