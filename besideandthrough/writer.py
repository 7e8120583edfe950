"""Writing programs, expressions and kinds."""

from besideandthrough.values import value_text
from besideandthrough.words import PARTS


def _part_texts(sort, part):
    """Returns the list of the texts that stand for a part of an expression."""
    if sort == "part":
        return [write_expression(part)]
    if sort == "parts":
        return [write_expression(each) for each in part]
    return [str(part)]


def write_expression(expression):
    """Returns the text of an expression."""
    word, *rest = expression
    if word in ("num", "var"):
        return str(rest[0])
    texts = [word]
    for sort, part in zip(PARTS[word], rest):
        texts.extend(_part_texts(sort, part))
    return "(" + " ".join(texts) + ")"


def write_kind(kind):
    """Returns the text of a kind."""
    return value_text(kind)


def _function_line(function):
    """Returns the line of a function."""
    name, parameters, body = function
    words = ["fun", name]
    for parameter, kind in parameters:
        words.append(f"({parameter} {write_kind(kind)})")
    words.append("=")
    words.append(write_expression(body))
    return " ".join(words)


def write_program(program):
    """Returns the text of a program."""
    functions, expression = program
    lines = [_function_line(function) for function in functions]
    lines.append(f"main = {write_expression(expression)}")
    return "\n".join(lines)
