"""Grafting trees on the results of a node, and catching failings."""

from besideandthrough.states import noted
from besideandthrough.webs import ordered, reached


def results(web, root):
    """Returns the list of the results of a node, ascending."""
    deeds = [web.deed_of(node) for node in reached(web, root)]
    return sorted([deed[1] for deed in deeds if deed[0] == "ret"])


def grafted(web, root, table):
    """Returns the node in whose tree the results of a table have become its nodes."""
    numbers = {}
    for node in reached(web, root):
        deed = web.deed_of(node)
        if deed[0] == "ret" and deed[1] in table:
            numbers[node] = table[deed[1]]
        else:
            numbers[node] = web.make(deed, [numbers[child] for child in web.children_of(node)])
    return numbers[root]


# Catching goes over pairs of a node and the notes that have been gathered up to it:
# a tuple with one number for each layer, which is 0 unless it is a note layer above
# the layer of the failing.


def _is_gathered(deed, layer):
    """Returns True if a deed is a note above a layer, otherwise False."""
    return deed[0] == "note" and deed[1] > layer


def _pairs_behind(web, layer, pair):
    """Returns the list of the pairs that follow a pair."""
    node, notes = pair
    deed = web.deed_of(node)
    if _is_gathered(deed, layer):
        notes = noted(web.book, notes, deed[1], deed[2])
    return [(child, notes) for child in web.children_of(node)]


def _behind_notes(web, node, notes, layer):
    """Returns the node with the gathered notes beneath a layer in front of it."""
    for number in range(layer - 1, 0, -1):
        if notes[number - 1] != 0:
            node = web.make(("note", number, notes[number - 1]), [node])
    return node


def _caught_tree(web, order, failing, back):
    """Returns the node in which a failing is replaced; back is what stands there."""
    layer = failing[1]
    made = {}
    for pair in order:
        node, notes = pair
        deed = web.deed_of(node)
        children = [made[behind] for behind in _pairs_behind(web, layer, pair)]
        if deed == failing:
            made[pair] = back
        elif _is_gathered(deed, layer):
            made[pair] = children[0]
        elif deed[0] == "ret":
            made[pair] = _behind_notes(web, node, notes, web.book.size + 1)
        elif deed[0] == "fail":
            made[pair] = _behind_notes(web, node, notes, deed[1])
        else:
            made[pair] = web.make(deed, children)
    return made[order[-1]]


def _rows_of(book, cells):
    """Returns the list of the rows of values that cells may have, ascending."""
    found = [()]
    for cell in cells:
        found = [(*row, value) for row in found for value in range(book.count_at(cell))]
    return found


def _written(web, cells, row, node):
    """Returns the node with puts of a row of values in front of it."""
    for cell, value in reversed(list(zip(cells, row))):
        node = web.make(("put", cell, value), [node])
    return node


def _read_first(web, cells, nodes):
    """Returns the node that reads the cells and goes on with the node of their row."""
    for cell in reversed(cells):
        size = web.book.count_at(cell)
        groups = [nodes[at:at + size] for at in range(0, len(nodes), size)]
        nodes = [web.make(("get", cell), group) for group in groups]
    return nodes[0]


def caught(web, root, layer, kind, other):
    """Returns the node in which a failing is caught and goes on with another node."""
    above = range(layer + 1, web.book.size + 1)
    cells = [number for number in above if web.book.word_at(number) == "cell"]
    start = (root, (0,) * web.book.size)
    order = ordered(start, lambda pair: _pairs_behind(web, layer, pair))
    nodes = []
    for row in _rows_of(web.book, cells):
        back = _written(web, cells, row, other)
        nodes.append(_caught_tree(web, order, ("fail", layer, kind), back))
    return _read_first(web, cells, nodes)
