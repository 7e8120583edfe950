"""Reading programs and expressions."""

from besideandthrough.errors import TextError
from besideandthrough.lines import Line
from besideandthrough.tokens import is_name, number_in
from besideandthrough.values import DEEPEST
from besideandthrough.words import PARTS

MOST_FUNCTIONS = 4
MOST_PARAMETERS = 3
MOST_OPEN = 24


def _new_name_in(line, known):
    """Takes a name that is not among the known ones."""
    return line.take(is_name(line.here()) and line.here() not in known)


def _part_of_kind_in(line, depth):
    """Takes the part of a pair; it is a kind other than 0 of at most this depth."""
    if depth > 0 and line.here() == "(":
        return _pair_of_kinds_in(line, depth)
    line.need(line.here() != "0")
    return line.whole(3)


def _pair_of_kinds_in(line, depth):
    """Takes a pair of kinds of at most this depth."""
    line.mark("(")
    left = _part_of_kind_in(line, depth - 1)
    right = _part_of_kind_in(line, depth - 1)
    line.mark(")")
    return left, right


def _kind_in(line):
    """Takes a kind."""
    if line.here() == "(":
        return _pair_of_kinds_in(line, DEEPEST)
    return line.whole(3)


def _expressions_in(line, spare):
    """Takes expressions up to a closing parenthesis."""
    found = []
    while line.here() != ")":
        found.append(_expression_in(line, spare))
    return tuple(found)


def _part_in(line, sort, spare):
    """Takes a part of an expression."""
    if sort == "number":
        return line.whole(3)
    if sort == "name":
        return line.name()
    if sort == "parts":
        return _expressions_in(line, spare)
    return _expression_in(line, spare)


def _expression_in(line, spare):
    """Takes an expression in which at most `spare` parentheses are open at once."""
    token = line.here()
    if token != "(":
        line.take(is_name(token) or number_in(token) >= 0)
        return ("var", token) if is_name(token) else ("num", number_in(token))
    line.take(spare > 0)
    word = line.take(line.here() in PARTS)
    expression = [word]
    for sort in PARTS[word]:
        expression.append(_part_in(line, sort, spare - 1))
    line.mark(")")
    return tuple(expression)


def _last_expression_in(line):
    """Takes an expression from a line that ends behind it."""
    expression = _expression_in(line, MOST_OPEN)
    line.finish()
    return expression


def _parameters_in(line):
    """Takes the parameters of a function up to the sign behind them."""
    found = {}
    while line.here() == "(":
        line.take(len(found) < MOST_PARAMETERS)
        name = _new_name_in(line, found)
        found[name] = _kind_in(line)
        line.mark(")")
    return tuple(found.items())


def _function_in(line, functions):
    """Takes the line of a function that stands behind the given ones."""
    line.take(line.here() == "fun" and len(functions) < MOST_FUNCTIONS)
    name = _new_name_in(line, [function[0] for function in functions])
    parameters = _parameters_in(line)
    line.mark("=")
    return name, parameters, _last_expression_in(line)


def _main_in(line):
    """Takes the line of the main expression."""
    line.mark("main")
    line.mark("=")
    return _last_expression_in(line)


def read_program(text):
    """Returns the program that a text writes."""
    functions = []
    mains = []
    rows = text.split("\n")
    for at, row in enumerate(rows):
        line = Line(row, at + 1)
        line.need(not mains)
        if line.here() == "main":
            mains.append(_main_in(line))
        else:
            functions.append(_function_in(line, functions))
    if not mains:
        raise TextError(len(rows) + 1, 1)
    return tuple(functions), mains[0]


def read_expression(text):
    """Returns the expression that a line writes."""
    return _last_expression_in(Line(text, 1))
