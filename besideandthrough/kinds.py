"""The kinds of expressions, their weights, and the checking of programs."""

from math import gcd

from besideandthrough.books import choices, draws
from besideandthrough.errors import KindError
from besideandthrough.values import DEEPEST, depth_of
from besideandthrough.words import parts_of

# The greatest integer kind of a number, a sum or a remainder.
MOST_SUM = 60
MOST_TIMES = 4
MOST_DEN = 6
MOST_WEIGHT = 400


def joined(one, other):
    """Returns the joined kind of two kinds, or None if there is none."""
    if one == 0 or other == 0:
        return other if one == 0 else one
    if isinstance(one, tuple) != isinstance(other, tuple):
        return None
    if not isinstance(one, tuple):
        return max(one, other)
    left = joined(one[0], other[0])
    right = joined(one[1], other[1])
    return None if left is None or right is None else (left, right)


def fits(kind, other):
    """Returns True if each value of a kind is a value of the other, otherwise False."""
    if kind == 0:
        return True
    if isinstance(kind, tuple) != isinstance(other, tuple):
        return False
    if not isinstance(kind, tuple):
        return kind <= other
    return fits(kind[0], other[0]) and fits(kind[1], other[1])


def has(kind, value):
    """Returns True if a value is a value of a kind, otherwise False."""
    if isinstance(kind, tuple) != isinstance(value, tuple):
        return False
    if not isinstance(kind, tuple):
        return value < kind
    return has(kind[0], value[0]) and has(kind[1], value[1])


# The rules below get the expression and the kinds of its parts. They return its
# kind, or None if it has none.


def _num(expression, _):
    return expression[1] + 1 if expression[1] < MOST_SUM else None


def _pair(_, kinds):
    if 0 in kinds:
        return 0
    kind = tuple(kinds)
    return kind if depth_of(kind) <= DEEPEST else None


def _half(kind, place):
    if kind == 0:
        return 0
    return kind[place] if isinstance(kind, tuple) else None


def _first(_, kinds):
    return _half(kinds[0], 0)


def _second(_, kinds):
    return _half(kinds[0], 1)


def _sum(_, kinds):
    one, other = kinds
    if isinstance(one, tuple) or isinstance(other, tuple):
        return None
    if one == 0 or other == 0:
        return 0
    return one + other - 1 if one + other - 1 <= MOST_SUM else None


def _mod(expression, kinds):
    if isinstance(kinds[0], tuple) or not 1 <= expression[2] <= MOST_SUM:
        return None
    return min(kinds[0], expression[2])


def _same(_, kinds):
    if joined(kinds[0], kinds[1]) is None:
        return None
    return 0 if 0 in kinds else 2


def _if(_, kinds):
    if isinstance(kinds[0], tuple):
        return None
    kind = joined(kinds[1], kinds[2])
    return 0 if kinds[0] == 0 and kind is not None else kind


PLAIN = {
    "num": _num,
    "pair": _pair,
    "first": _first,
    "second": _second,
    "sum": _sum,
    "mod": _mod,
    "same": _same,
    "if": _if,
}


# The rules of deeds get the book, too.


def _layer_with(book, name, word):
    """Returns the number of the layer with a name and a word, or 0."""
    layer = book.number_of(name)
    return layer if layer and book.word_at(layer) == word else 0


def _read(book, expression, _):
    layer = _layer_with(book, expression[1], "cell" if expression[0] == "get" else "setting")
    return book.count_at(layer) if layer else None


def _write(book, expression, kinds):
    layer = _layer_with(book, expression[1], "cell" if expression[0] == "put" else "note")
    if not layer or not fits(kinds[0], book.count_at(layer)):
        return None
    return 0 if kinds[0] == 0 else 1


def _choose(book, expression, _):
    return 2 if expression[1] < choices(book.kernel) else None


def _draw(book, expression, _):
    _, piece, num, den = expression
    if piece >= draws(book.kernel) or not 1 <= num < den <= MOST_DEN:
        return None
    return 2 if gcd(num, den) == 1 else None


def _fail(book, expression, _):
    layer = _layer_with(book, expression[1], "fail")
    return 0 if layer and expression[2] < book.count_at(layer) else None


def _ask(book, expression, _):
    layer = _layer_with(book, expression[1], "outside")
    if not layer or expression[2] >= book.count_at(layer):
        return None
    return book.ways_at(layer, expression[2])


def _try(book, expression, kinds):
    layer = _layer_with(book, expression[1], "fail")
    if not layer or expression[2] >= book.count_at(layer):
        return None
    for above in range(layer + 1, book.size + 1):
        if book.word_at(above) == "outside":
            return None
    return joined(kinds[0], kinds[1])


DEEDS = {
    "get": _read,
    "look": _read,
    "put": _write,
    "note": _write,
    "choose": _choose,
    "draw": _draw,
    "fail": _fail,
    "ask": _ask,
    "try": _try,
}


def _call(functions, name, kinds):
    """Returns the kind of a call whose arguments have these kinds, or None."""
    if name not in functions:
        return None
    wanted, kind = functions[name]
    if len(wanted) != len(kinds):
        return None
    for given, parameter in zip(kinds, wanted):
        if not fits(given, parameter):
            return None
    return 0 if 0 in kinds else kind


def _let(book, functions, expression, names):
    """Returns the kind of a let, or None if it has none."""
    _, name, bound, body = expression
    first = _found(book, functions, bound, names)
    if first is None:
        return None
    kind = _found(book, functions, body, {**names, name: first})
    return 0 if first == 0 and kind is not None else kind


def _repeat(book, functions, expression, names):
    """Returns the kind of a repeat, or None if it has none."""
    _, many, name, bound, body = expression
    if not 1 <= many <= MOST_TIMES:
        return None
    first = _found(book, functions, bound, names)
    kind = first
    for _ in range(many):
        if kind is None:
            return None
        further = _found(book, functions, body, {**names, name: kind})
        kind = None if further is None else joined(kind, further)
    return 0 if first == 0 and kind is not None else kind


def _found(book, functions, expression, names):
    """Returns the kind of an expression, or None if it has none."""
    word = expression[0]
    if word == "var":
        return names.get(expression[1])
    if word == "let":
        return _let(book, functions, expression, names)
    if word == "repeat":
        return _repeat(book, functions, expression, names)
    kinds = [_found(book, functions, part, names) for part in parts_of(expression)]
    if None in kinds:
        return None
    if word == "call":
        return _call(functions, expression[1], kinds)
    if word in PLAIN:
        plain = PLAIN[word]
        return plain(expression, kinds)
    rule = DEEDS[word]
    return rule(book, expression, kinds)


def kind_of(book, functions, expression, names):
    """Returns the kind of an expression."""
    kind = _found(book, functions, expression, names)
    if kind is None:
        raise KindError("expression")
    return kind


def weight(functions, expression):
    """Returns the weight of an expression."""
    weights = [weight(functions, part) for part in parts_of(expression)]
    if expression[0] == "repeat":
        return 1 + weights[0] + expression[1] * weights[1]
    if expression[0] == "call":
        return 1 + sum(weights) + functions.get(expression[1], 0)
    return 1 + sum(weights)


class Known:
    """The functions that have been checked so far, their kinds and weights."""

    def __init__(self, book):
        self.book = book
        self.kinds = {}
        self.weights = {}

    def checked(self, where, expression, names):
        """Returns the weight and kind of a body or of the main expression."""
        heavy = weight(self.weights, expression)
        if heavy > MOST_WEIGHT:
            raise KindError(where)
        kind = _found(self.book, self.kinds, expression, names)
        if kind is None:
            raise KindError(where)
        return heavy, kind


def check(book, program):
    """Returns the kind of the main expression of a program."""
    functions, expression = program
    known = Known(book)
    for name, parameters, body in functions:
        heavy, kind = known.checked(name, body, dict(parameters))
        wanted = tuple([parameter[1] for parameter in parameters])
        known.kinds[name] = (wanted, kind)
        known.weights[name] = heavy
    return known.checked("main", expression, {})[1]
