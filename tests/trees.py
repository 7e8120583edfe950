"""Trees as nested tuples, and what points [39] to [45] say of them.

A tree is a pair of a deed and the tuple of the trees behind its ways. All this is written
straight from the words of the points, without any node of a web.
"""

from besideandthrough.values import read_value, value_text


class TooBig(Exception):
    """A tree is larger than the limit."""


def tree_of(web, node):
    return web.deed_of(node), tuple(tree_of(web, child) for child in web.children_of(node))


def node_for(web, tree):
    return web.make(tree[0], [node_for(web, child) for child in tree[1]])


def size(tree):
    return 1 + sum(size(child) for child in tree[1])


def deeds_in(tree):
    yield tree[0]
    for child in tree[1]:
        yield from deeds_in(child)


def results_in(tree):
    return sorted({deed[1] for deed in deeds_in(tree) if deed[0] == "ret"})


def replaced(tree, table):
    if tree[0][0] == "ret":
        return table.get(tree[0][1], tree)
    return tree[0], tuple(replaced(child, table) for child in tree[1])


def caught_in(book, tree, f, j, other):
    """The caught tree of point [41]."""
    above = range(f + 1, book.size + 1)
    cells = [layer for layer in above if book.layers[layer - 1][0] == "cell"]
    notes = [layer for layer in above if book.layers[layer - 1][0] == "note"]

    def behind(layers, gathered, inner):
        for layer in reversed(layers):
            if gathered[layer]:
                inner = (("note", layer, gathered[layer]), (inner,))
        return inner

    def changed(tree, row, gathered):
        deed, children = tree
        if deed[0] == "note" and deed[1] > f:
            table = book.layers[deed[1] - 1][2]
            further = {**gathered, deed[1]: table[gathered[deed[1]]][deed[2]]}
            return changed(children[0], row, further)
        if deed[0] == "ret":
            return behind(notes, gathered, tree)
        if deed == ("fail", f, j):
            found = other
            for cell in reversed(cells):
                found = (("put", cell, row[cell]), (found,))
            return found
        if deed[0] == "fail":
            return behind([layer for layer in notes if layer < deed[1]], gathered, tree)
        return deed, tuple(changed(child, row, gathered) for child in children)

    def topped(left, row):
        if not left:
            return changed(tree, row, {layer: 0 for layer in notes})
        rows = [{**row, left[0]: value} for value in range(book.layers[left[0] - 1][2])]
        return ("get", left[0]), tuple(topped(left[1:], further) for further in rows)

    return topped(cells, {})


class Unfolder:
    """The trees of expressions by the words of points [43] to [45]."""

    def __init__(self, book, functions, limit):
        self.book = book
        self.functions = functions
        self.limit = limit
        self.most = 0

    def tree(self, expression, names):
        found = self.by_word(expression, names)
        self.most = max(self.most, size(found))
        if size(found) > self.limit:
            raise TooBig
        return found

    def chained(self, parts, names, last, values=()):
        """The trees of parts one behind the other, and last of all their values."""
        if not parts:
            return last(*values)
        first = self.tree(parts[0], names)
        table = {}
        for text in results_in(first):
            further = (*values, read_value(text))
            table[text] = self.chained(parts[1:], names, last, further)
            # It stands within the tree of the expression, which is larger still.
            if size(table[text]) > self.limit:
                raise TooBig
        return replaced(first, table)

    def returned(self, value):
        return ("ret", value_text(value)), ()

    def by_word(self, expression, names):
        word, *rest = expression
        number = self.book.number_of
        returned = self.returned
        if word == "num":
            return returned(rest[0])
        if word == "var":
            return returned(names[rest[0]])
        if word in ("get", "look"):
            layer = number(rest[0])
            many = self.book.layers[layer - 1][2]
            return (word, layer), tuple(returned(value) for value in range(many))
        if word in ("choose", "draw"):
            return expression, (returned(0), returned(1))
        if word == "ask":
            layer = number(rest[0])
            many = self.book.layers[layer - 1][2][rest[1]]
            return (word, layer, rest[1]), tuple(returned(value) for value in range(many))
        if word == "fail":
            return (word, number(rest[0]), rest[1]), ()
        if word in ("put", "note"):
            return self.chained(
                rest[1:], names, lambda value: ((word, number(rest[0]), value), (returned(0),)))
        if word == "mod":
            return self.chained(rest[:1], names, lambda value: returned(value % rest[1]))
        simple = {
            "first": lambda a: returned(a[0]), "second": lambda a: returned(a[1]),
            "pair": lambda a, b: returned((a, b)), "sum": lambda a, b: returned(a + b),
            "same": lambda a, b: returned(int(a == b))}
        if word in simple:
            return self.chained(rest, names, simple[word])
        return self.by_longer_word(word, rest, names)

    def by_longer_word(self, word, rest, names):
        if word == "let":
            return self.again(1, *rest, names)
        if word == "repeat":
            return self.again(*rest, names)
        if word == "if":
            a, b, c = rest
            return self.chained([a], names, lambda value: self.tree(b if value else c, names))
        if word == "call":
            parameters, body = self.functions[rest[0]]
            return self.chained(
                rest[1], names, lambda *values: self.tree(body, dict(zip(parameters, values))))
        name, kind, a, b = rest
        layer = self.book.number_of(name)
        root = self.tree(a, names)
        other = root
        if ("fail", layer, kind) in list(deeds_in(root)):
            other = self.tree(b, names)
        return caught_in(self.book, root, layer, kind, other)

    def again(self, many, name, a, b, names):
        found = self.tree(a, names)
        for _ in range(many):
            table = {text: self.tree(b, {**names, name: read_value(text)})
                     for text in results_in(found)}
            found = replaced(found, table)
            # Further rounds make it only larger.
            if size(found) > self.limit:
                raise TooBig
        return found
