"""What is a number, and what is a colour."""


def is_number(thing):
    """Whether it is a whole number, which True and False are not."""
    return isinstance(thing, int) and not isinstance(thing, bool)


def is_colour(thing):
    """Whether it is a text of one to eight letters a to z."""
    return isinstance(thing, str) and 1 <= len(thing) <= 8 and all(["a" <= sign <= "z" for sign in thing])
