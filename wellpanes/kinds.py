"""What is a number, a colour, a row of quarters."""


def is_number(thing):
    """Whether it is a whole number, which True and False are not."""
    return isinstance(thing, int) and not isinstance(thing, bool)


def is_colour(thing):
    """Whether it is a text of one to eight letters a to z."""
    return isinstance(thing, str) and 1 <= len(thing) <= 8 and all(["a" <= sign <= "z" for sign in thing])


def is_row(thing):
    """Whether it is a tuple of quarters, none too."""
    return isinstance(thing, tuple) and all([is_number(part) and 0 <= part <= 3 for part in thing])
