"""The refusals, each made with what is refused."""


class NoName(LookupError):
    """No picture has this name."""

    def __init__(self, what):
        self.what = what


class NoDeed(LookupError):
    """There are not so many deeds."""

    def __init__(self, what):
        self.what = what


class NoPane(LookupError):
    """The picture of this name shows no pane there."""

    def __init__(self, what):
        self.what = what


class NoMix(LookupError):
    """The table lacks this pair of colours."""

    def __init__(self, what):
        self.what = what


class BadRow(ValueError):
    """The row of this number is not written as it must be."""

    def __init__(self, what):
        self.what = what


class Even(RuntimeError):
    """The picture is itself by each of these turns."""

    def __init__(self, what):
        self.what = what
