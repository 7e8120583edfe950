"""Values and their texts."""

from besideandthrough.errors import TextError
from besideandthrough.lines import Line

DEEPEST = 4


def depth_of(value):
    """Returns the depth of a value or a kind."""
    if isinstance(value, tuple):
        return 1 + max(depth_of(value[0]), depth_of(value[1]))
    return 0


def value_text(value):
    """Returns the text of a value or a kind."""
    if isinstance(value, tuple):
        return f"({value_text(value[0])} {value_text(value[1])})"
    return str(value)


def value_in(line, depth):
    """Takes the text of a value of at most this depth from a line."""
    if depth > 0 and line.here() == "(":
        line.mark("(")
        left = value_in(line, depth - 1)
        right = value_in(line, depth - 1)
        line.mark(")")
        return left, right
    return line.whole(3)


def last_value_in(line):
    """Takes the text of a value from a line that ends behind it."""
    value = value_in(line, DEEPEST)
    line.finish()
    return value


def read_value(text):
    """Returns the value that a text writes."""
    return last_value_in(Line(text, 1))


def is_value_text(text):
    """Returns True if a text writes a value, otherwise False."""
    try:
        read_value(text)
    except TextError:
        return False
    return True
