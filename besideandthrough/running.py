"""Evaluating expressions in a play, and running programs."""

from besideandthrough.errors import DeedsError
from besideandthrough.plays import Play
from besideandthrough.values import value_text
from besideandthrough.words import parts_of

PLAIN = ("pair", "first", "second", "sum", "mod", "same")


class Failing(DeedsError):
    """Leads a failing to the try that catches it, or to the end of the evaluation."""

    def __init__(self, layer, kind):
        self.layer = layer
        self.kind = kind


def plain_value(expression, values):
    """Returns the value of an expression without deeds from the values of its parts."""
    word = expression[0]
    if word == "pair":
        return values[0], values[1]
    if word == "first":
        return values[0][0]
    if word == "second":
        return values[0][1]
    if word == "sum":
        return values[0] + values[1]
    if word == "mod":
        return values[0] % expression[2]
    return 1 if values[0] == values[1] else 0


def deed_for(book, expression, values):
    """Returns the deed that an expression does when its parts have these values."""
    word, *rest = expression
    if word in ("choose", "draw"):
        return expression
    layer = book.number_of(rest[0])
    if word in ("put", "note"):
        return word, layer, values[0]
    return word, layer, *rest[1:]


# The rules below return the value of an expression, or raise Failing.


def _let(play, functions, expression, names):
    _, name, bound, body = expression
    value = _value(play, functions, bound, names)
    return _value(play, functions, body, {**names, name: value})


def _if(play, functions, expression, names):
    _, test, one, other = expression
    part = other if _value(play, functions, test, names) == 0 else one
    return _value(play, functions, part, names)


def _repeat(play, functions, expression, names):
    _, many, name, bound, body = expression
    value = _value(play, functions, bound, names)
    for _ in range(many):
        value = _value(play, functions, body, {**names, name: value})
    return value


def _try(play, functions, expression, names):
    _, name, kind, first, other = expression
    layer = play.book.number_of(name)
    before = play.state
    try:
        return _value(play, functions, first, names)
    except Failing as failing:
        if failing.layer != layer or failing.kind != kind:
            raise
    play.restore(layer, before)
    return _value(play, functions, other, names)


# The words whose parts are not all evaluated once and under the same names.
RULES = {"let": _let, "if": _if, "repeat": _repeat, "try": _try}


def _call(play, functions, expression, values):
    parameters, body = functions[expression[1]]
    return _value(play, functions, body, dict(zip(parameters, values)))


def _value(play, functions, expression, names):
    word = expression[0]
    if word == "num":
        return expression[1]
    if word == "var":
        return names[expression[1]]
    if word == "fail":
        raise Failing(play.book.number_of(expression[1]), expression[2])
    if word in RULES:
        rule = RULES[word]
        return rule(play, functions, expression, names)
    values = [_value(play, functions, part, names) for part in parts_of(expression)]
    if word == "call":
        return _call(play, functions, expression, values)
    if word in PLAIN:
        return plain_value(expression, values)
    return play.answer(deed_for(play.book, expression, values))


def evaluate(play, functions, expression, names):
    """Returns a pair of "value" and the value, or the failing of an expression."""
    try:
        return "value", _value(play, functions, expression, names)
    except Failing as failing:
        return "fail", failing.layer, failing.kind


def bodies_by_name(functions):
    """Returns the parameters' names and the body of each function by its name."""
    found = {}
    for name, parameters, body in functions:
        found[name] = (tuple([parameter[0] for parameter in parameters]), body)
    return found


def run(book, program, *, start, script=()):
    """Returns the outcome of a run of a program."""
    functions, expression = program
    play = Play(book, start, script)
    told = evaluate(play, bodies_by_name(functions), expression, {})
    if told[0] == "value":
        return play.outcome(("ret", value_text(told[1])))
    return play.outcome(told)
