"""The errors that the program raises."""


class DeedsError(ValueError):
    """The base class of all errors that the program raises."""


class TextError(DeedsError):
    """A text breaks its form at a token of a line; both are counted from 1."""

    def __init__(self, line, token):
        self.line = line
        self.token = token


class BookError(DeedsError):
    """A book cannot be created; layer 0 stands for the book as a whole."""

    def __init__(self, layer):
        self.layer = layer


class KindError(DeedsError):
    """An expression has no kind, or a program is not checked."""

    def __init__(self, where):
        self.where = where


class PaperError(DeedsError):
    """A row of a paper does not hold; row 0 stands for the paper as a whole."""

    def __init__(self, row):
        self.row = row


class WorldError(DeedsError):
    """A row of a world is not allowed; row 0 stands for the world as a whole."""

    def __init__(self, row):
        self.row = row


class WebError(DeedsError):
    """A node cannot be made, or a web is not the one that is asked for."""


class TooLarge(DeedsError):
    """Something would be larger than its limit."""


class MachineError(DeedsError):
    """A machine cannot do what it is asked for."""


class BenchError(DeedsError):
    """A bench cannot do what it is asked for."""
