"""Makes many nodes over books of each kernel, the same ones each time."""

import random

from besideandthrough.books import Book, choices, draws
from besideandthrough.webs import Web, ways_on
from tests.helpers import KERNELS, LEFT, SIGNS

# Layers of each sort, above and beneath each other, with few states.
LAYERS = (
    (),
    (("cell", "c", 2), ("note", "n", LEFT)),
    (("fail", "f", 2), ("setting", "s", 2), ("cell", "c", 2), ("note", "n", SIGNS)),
    (("note", "m", LEFT), ("cell", "c", 2), ("outside", "o", (2, 1)), ("note", "n", LEFT),
     ("cell", "d", 2)),
    (("outside", "p", (2,)), ("cell", "c", 3), ("fail", "f", 1), ("outside", "o", (1,)),
     ("setting", "s", 2)),
    (("note", "m", SIGNS), ("fail", "f", 1), ("cell", "c", 2), ("note", "n", LEFT),
     ("fail", "g", 2)),
    (("setting", "s", 2), ("note", "m", LEFT), ("outside", "o", (2,)), ("fail", "f", 2),
     ("cell", "c", 2)),
)
SHARES = ((1, 2), (1, 3), (2, 3), (1, 6), (2, 5))


def books():
    """Yields a book for each kernel and each row of layers."""
    for kernel in KERNELS:
        for layers in LAYERS:
            yield Book(kernel, layers)


def deeds_of(book):
    """The deeds of a book, with a few results and a few shares of each draw."""
    deeds = [("ret", "0"), ("ret", "1"), ("ret", "(0 1)")]
    for piece in range(choices(book.kernel)):
        deeds.append(("choose", piece))
    for piece in range(draws(book.kernel)):
        deeds += [("draw", piece, a, b) for a, b in SHARES]
    for at, (word, _, extent) in enumerate(book.layers):
        layer = at + 1
        if word == "fail":
            deeds += [("fail", layer, kind) for kind in range(extent)]
        elif word == "cell":
            deeds += [("get", layer)] + [("put", layer, value) for value in range(extent)]
        elif word == "setting":
            deeds.append(("look", layer))
        elif word == "note":
            deeds += [("note", layer, member) for member in range(len(extent))]
        else:
            deeds += [("ask", layer, outside) for outside in range(len(extent))]
    return deeds


class Nodes:
    """A web with random nodes, and trees of a depth over them."""

    def __init__(self, book, seed):
        self.random = random.Random(seed)
        self.web = Web(book)
        deeds = deeds_of(book)
        self.ends = [deed for deed in deeds if ways_on(book, deed) == 0]
        self.inner = [deed for deed in deeds if ways_on(book, deed) > 0]
        # One word is as likely as another, whatever the number of its deeds.
        self.words = sorted({deed[0] for deed in self.inner})

    def end(self):
        return self.web.make(self.random.choice(self.ends), ())

    def deed(self):
        word = self.random.choice(self.words)
        return self.random.choice([deed for deed in self.inner if deed[0] == word])

    def node(self, depth):
        """A node with a random tree."""
        if depth == 0 or not self.inner or self.random.random() < 0.1:
            return self.end()
        deed = self.deed()
        children = [self.node(depth - 1) for _ in range(ways_on(self.web.book, deed))]
        return self.web.make(deed, children)

    def nodes(self, many, depth):
        return [self.node(self.random.randint(0, depth)) for _ in range(many)]


def all_nodes(many, depth, seed=0):
    """Yields a web and a list of nodes for each kernel and each row of layers."""
    for at, book in enumerate(books()):
        made = Nodes(book, seed * 1000 + at)
        yield made.web, made.nodes(many, depth)
