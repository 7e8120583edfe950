"""Makes many checked programs over a book, the same ones each time."""

import random

from besideandthrough.books import Book, choices, draws
from besideandthrough.errors import KindError
from besideandthrough.kinds import check, kind_of, weight
from tests.helpers import LEFT, SIGNS

# Books over which fail layers stand beneath, between and above other layers.
BOOKS = (
    Book("spread", [("cell", "a", 2), ("fail", "f", 2), ("note", "n", LEFT), ("cell", "b", 3)]),
    Book("none", [("fail", "f", 1), ("cell", "c", 2), ("note", "n", SIGNS)]),
    Book("twochoose", [("setting", "s", 3), ("outside", "o", (3, 1)), ("note", "m", LEFT),
                       ("fail", "f", 2), ("note", "n", LEFT)]),
    Book("twodraw", [("note", "m", SIGNS), ("cell", "c", 2), ("outside", "o", (2,)),
                     ("fail", "f", 1), ("fail", "g", 3)]),
    Book("mixed", [("cell", "c", 2), ("fail", "f", 1), ("cell", "d", 2), ("outside", "o", (2, 2)),
                   ("note", "n", LEFT)]),
    Book("choose", [("fail", "f", 1), ("cell", "a", 2), ("fail", "g", 2), ("cell", "b", 2),
                    ("cell", "c", 2)]),
    Book("draw", [("setting", "s", 2), ("cell", "c", 3), ("note", "n", LEFT), ("fail", "f", 2),
                  ("cell", "d", 2)]),
    Book("choose", ()),
)
SHARES = ((1, 2), (1, 3), (2, 3), (1, 6), (5, 6), (2, 5))


class Maker:
    """Makes expressions; each one has a kind under the names that it is made for."""

    def __init__(self, seed, book):
        self.random = random.Random(seed)
        self.book = book
        self.functions = {}

    def kind(self, expression, names):
        return kind_of(self.book, self.functions, expression, names)

    def layers(self, word):
        return [layer for layer in self.book.layers if layer[0] == word]

    def small(self, names, depth, size):
        """An expression whose kind fits a size."""
        while True:
            expression = self.expression(names, depth)
            if isinstance(self.kind(expression, names), int):
                return ("mod", expression, self.random.randint(1, size))

    def number(self, names, depth):
        while True:
            expression = self.expression(names, depth)
            if isinstance(self.kind(expression, names), int):
                return expression

    def expression(self, names, depth):
        while True:
            expression = self.attempt(names, depth)
            try:
                self.kind(expression, names)
            except KindError:
                continue
            return expression

    def attempt(self, names, depth):
        rnd = self.random
        if depth <= 0 or rnd.random() < 0.1:
            return self.leaf(names)
        deeper = depth - 1
        word = rnd.choice((
            "pair", "first", "second", "sum", "mod", "same", "let", "let", "let", "if", "if",
            "repeat", "try", "try", "try", "call", "put", "put", "note", "note"))
        if word in ("pair", "same"):
            return (word, self.expression(names, deeper), self.expression(names, deeper))
        if word in ("first", "second"):
            return (word, self.expression(names, deeper))
        if word == "sum":
            return (word, self.small(names, deeper, 4), self.small(names, deeper, 4))
        if word == "mod":
            return self.small(names, deeper, 3)
        if word == "let":
            name = rnd.choice("xyz")
            bound = self.expression(names, deeper)
            inner = {**names, name: self.kind(bound, names)}
            return (word, name, bound, self.expression(inner, deeper))
        if word == "if":
            return (word, self.number(names, deeper), self.expression(names, deeper),
                    self.expression(names, deeper))
        if word == "repeat":
            name = rnd.choice("xyz")
            bound = self.small(names, deeper, 3)
            inner = {**names, name: 3}
            return (word, rnd.randint(1, 3), name, bound, self.small(inner, deeper, 3))
        if word == "call":
            return self.called(names, deeper)
        return self.layered(word, names, deeper)

    def layered(self, word, names, depth):
        layers = self.layers({"try": "fail", "put": "cell", "note": "note"}[word])
        if not layers:
            return self.leaf(names)
        _, name, extent = self.random.choice(layers)
        if word == "try":
            return (word, name, self.random.randrange(extent), self.expression(names, depth),
                    self.expression(names, depth))
        many = extent if word == "put" else len(extent)
        return (word, name, self.small(names, depth, many))

    def called(self, names, depth):
        if not self.functions:
            return self.leaf(names)
        name = self.random.choice(sorted(self.functions))
        kinds, _ = self.functions[name]
        return ("call", name, tuple([self.small(names, depth, kind) for kind in kinds]))

    def leaf(self, names):
        rnd = self.random
        found = [("num", rnd.randrange(4))]
        found += [("var", name) for name in names] * 2
        for word, name, extent in self.book.layers:
            if word == "cell":
                found += [("get", name)] * 3
            elif word == "setting":
                found += [("look", name)] * 3
            elif word == "fail":
                found.append(("fail", name, rnd.randrange(extent)))
            elif word == "outside":
                found += [("ask", name, rnd.randrange(len(extent)))] * 3
        for piece in range(choices(self.book.kernel)):
            found += [("choose", piece)] * 3
        for piece in range(draws(self.book.kernel)):
            found += [("draw", piece, *rnd.choice(SHARES))] * 3
        return rnd.choice(found)

    def program(self, depth):
        """A program that is checked."""
        functions = []
        weights = {}
        for name in "fgh"[:self.random.randrange(4)]:
            parameters = [(name, self.random.randint(1, 3))
                          for name in "xyz"[:self.random.randrange(4)]]
            body = self.expression(dict(parameters), depth - 1)
            self.functions[name] = (tuple(kind for _, kind in parameters),
                                    self.kind(body, dict(parameters)))
            weights[name] = weight(weights, body)
            functions.append((name, tuple(parameters), body))
        return tuple(functions), self.expression({}, depth)


def programs(many, depth=4):
    """Yields pairs of a book and a checked program of it, as many for each book."""
    for place, book in enumerate(BOOKS):
        made = 0
        seed = 0
        while made < many:
            seed += 1
            program = Maker(seed * 100 + place, book).program(depth)
            try:
                check(book, program)
            except KindError:
                continue
            made += 1
            yield book, program


def scripts(seed, many):
    """Yields scripts of several lengths, one of them empty."""
    rnd = random.Random(seed)
    yield ()
    for _ in range(many - 1):
        yield tuple(rnd.randrange(1, 40) for _ in range(rnd.randrange(1, 9)))
