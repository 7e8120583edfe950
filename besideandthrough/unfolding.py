"""Unfolding expressions and programs to nodes of a web."""

from besideandthrough.errors import TooLarge
from besideandthrough.grafts import caught, grafted, results
from besideandthrough.running import PLAIN, bodies_by_name, deed_for, plain_value
from besideandthrough.values import read_value, value_text
from besideandthrough.webs import reached, ways_on
from besideandthrough.words import parts_of


class Graft:
    """A graft on a node that refuses to become larger than a limit.

    Each result stands in the tree at least once, so that the tree is too large as soon
    as the nodes that were given so far are, and nothing more has to be unfolded.
    """

    def __init__(self, web, root, limit):
        self.web = web
        self.root = root
        self.limit = limit
        self.size = web.size_of(root)
        self.table = {}

    def give(self, text, node):
        """Gives a node to a result."""
        self.table[text] = node
        self.size += self.web.size_of(node) - 1
        if self.size > self.limit:
            raise TooLarge("the tree of an expression is too large")

    def made(self):
        """Returns the node with the grafted tree."""
        return grafted(self.web, self.root, self.table)


# The rules below return the node of an expression under names.


def _bound(work, expression, names):
    word, *rest = expression
    many = rest.pop(0) if word == "repeat" else 1
    name, first, body = rest
    node = work.node_of(first, names)
    for _ in range(many):
        graft = Graft(work.web, node, work.limit)
        for text in results(work.web, node):
            graft.give(text, work.node_of(body, {**names, name: read_value(text)}))
        node = graft.made()
    return node


def _if(work, expression, names):
    _, test, one, other = expression
    root = work.node_of(test, names)
    texts = results(work.web, root)
    table = {}
    if "0" in texts:
        table["0"] = work.node_of(other, names)
    if texts not in ([], ["0"]):
        node = work.node_of(one, names)
        table.update({text: node for text in texts if text != "0"})
    return grafted(work.web, root, table)


def _try(work, expression, names):
    _, name, kind, first, other = expression
    layer = work.web.book.number_of(name)
    root = behind = work.node_of(first, names)
    deeds = [work.web.deed_of(node) for node in reached(work.web, root)]
    if ("fail", layer, kind) in deeds:
        behind = work.node_of(other, names)
    return caught(work.web, root, layer, kind, behind)


# The words whose parts are not all unfolded one after the other and under the same names.
RULES = {"let": _bound, "repeat": _bound, "if": _if, "try": _try}


class Unfolding:
    """The unfolding of expressions with the same functions and the same limit."""

    def __init__(self, web, functions, limit):
        self.web = web
        self.functions = functions
        self.limit = limit

    def node_of(self, expression, names):
        """Returns the node of an expression under names, and refuses one that is too large."""
        if expression[0] in RULES:
            rule = RULES[expression[0]]
            node = rule(self, expression, names)
        else:
            node = self._over_parts(expression, names)
        if self.web.size_of(node) > self.limit:
            raise TooLarge("the tree of an expression is too large")
        return node

    def _over_parts(self, expression, names):
        """Returns the node of an expression that goes through its parts in order."""
        nodes = []
        for part in parts_of(expression):
            nodes.append(self.node_of(part, names))
            if not results(self.web, nodes[-1]):
                break
        return self._behind(expression, names, nodes, ())

    def _behind(self, expression, names, nodes, values):
        """Returns the node of what is left to do when the parts before have these values."""
        if not nodes:
            return self._last(expression, names, values)
        first, *others = nodes
        graft = Graft(self.web, first, self.limit)
        for text in results(self.web, first):
            further = (*values, read_value(text))
            graft.give(text, self._behind(expression, names, others, further))
        return graft.made()

    def _last(self, expression, names, values):
        """Returns the node of what an expression does when all its parts have values."""
        word = expression[0]
        if word == "call":
            parameters, body = self.functions[expression[1]]
            return self.node_of(body, dict(zip(parameters, values)))
        if word == "num":
            return self._returned(expression[1])
        if word == "var":
            return self._returned(names[expression[1]])
        if word in PLAIN:
            return self._returned(plain_value(expression, values))
        deed = deed_for(self.web.book, expression, values)
        many = ways_on(self.web.book, deed)
        return self.web.make(deed, [self._returned(way) for way in range(many)])

    def _returned(self, value):
        """Returns the node that only returns a value."""
        return self.web.make(("ret", value_text(value)), ())


def unfold_expression(web, functions, expression, names, *, limit=400):
    """Returns the node of an expression under names, with functions."""
    return Unfolding(web, functions, limit).node_of(expression, names)


def unfold(web, program, *, limit=400):
    """Returns the node of a program."""
    functions, expression = program
    return unfold_expression(web, bodies_by_name(functions), expression, {}, limit=limit)
