"""Terms: nodes that stand for ends, bodies, parts and forms, and the ways back."""

from besideandthrough.backs import Backs, highest_values
from besideandthrough.shares import lowest


def _with_entries(web, node, entries):
    """Returns the node with the kept entries of cells and notes written over it."""
    for at, entry in enumerate(entries):
        word = web.book.word_at(at + 1)
        if word in ("cell", "note"):
            write = "put" if word == "cell" else "note"
            node = web.make((write, at + 1, entry), [node])
    return node


def end_term(web, end):
    """Returns the node of the term of an end."""
    if end[0] == "ask":
        parts = [part_term(web, end[1], part) for part in end[4]]
        return _with_entries(web, web.make(end[:3], parts), end[3])
    deed = ("ret", end[1]) if end[0] == "done" else end[:3]
    return _with_entries(web, web.make(deed, ()), end[-1])


def drawn_term(web, nodes, numbers):
    """Returns the node that draws nodes with shares in the proportion of numbers."""
    node = nodes[-1]
    total = numbers[-1]
    for first, number in reversed(list(zip(nodes[:-1], numbers))):
        total += number
        node = web.make(("draw", 0, *lowest(number, total)), [first, node])
    return node


def chosen_term(web, nodes):
    """Returns the node that chooses between nodes."""
    node = nodes[-1]
    for first in reversed(nodes[:-1]):
        node = web.make(("choose", 0), [first, node])
    return node


def _point_term(web, point):
    """Returns the node of the term of a share point."""
    nodes = [end_term(web, end) for end, _ in point[1]]
    return drawn_term(web, nodes, [number for _, number in point[1]])


def body_term(web, body):
    """Returns the node of the term of a body."""
    return chosen_term(web, [_point_term(web, point) for point in body])


def part_term(web, layer, part):
    """Returns the node of the term of a part beneath a layer."""
    number = highest_values(web.book, layer)
    if number == 0:
        return body_term(web, part[0])
    size = web.book.count_at(number)
    word = "get" if web.book.word_at(number) == "cell" else "look"
    children = [part_term(web, number, part[value::size]) for value in range(size)]
    return web.make((word, number), children)


def term_of(web, form):
    """Returns the node of the term of a form."""
    return part_term(web, web.book.size + 1, form)


def end_of(web, node):
    """Returns the end of a node that is its term."""
    backs = Backs(web)
    return backs.end(node)


def body_of(web, node):
    """Returns the body of a node that is made of choices and draws over terms of ends."""
    backs = Backs(web)
    return backs.body(node)


def part_of(web, layer, node):
    """Returns the part beneath a layer of a node that is its term."""
    backs = Backs(web)
    return tuple(backs.part(layer, node))
