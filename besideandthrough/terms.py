"""Terms: nodes that stand for ends, bodies, parts and forms, and the ways back."""

from besideandthrough.bodies import body_above, only
from besideandthrough.shares import lowest
from besideandthrough.states import has_values
from besideandthrough.webs import ordered


def _highest_values(book, layer):
    """Returns the number of the highest cell or setting beneath a layer, or 0."""
    for number in range(layer - 1, 0, -1):
        if has_values(book, number):
            return number
    return 0


def _with_entries(web, node, entries):
    """Returns the node with the kept entries of cells and notes written over it."""
    for at, entry in enumerate(entries):
        word = web.book.word_at(at + 1)
        if word in ("cell", "note"):
            write = "put" if word == "cell" else "note"
            node = web.make((write, at + 1, entry), [node])
    return node


def end_term(web, end):
    """Returns the node of the term of an end."""
    if end[0] == "ask":
        parts = [part_term(web, end[1], part) for part in end[4]]
        return _with_entries(web, web.make(end[:3], parts), end[3])
    deed = ("ret", end[1]) if end[0] == "done" else end[:3]
    return _with_entries(web, web.make(deed, ()), end[-1])


def _point_term(web, point):
    """Returns the node of the term of a share point."""
    pairs = list(reversed(point[1]))
    end, total = pairs[0]
    node = end_term(web, end)
    for end, number in pairs[1:]:
        total += number
        node = web.make(("draw", 0, *lowest(number, total)), [end_term(web, end), node])
    return node


def body_term(web, body):
    """Returns the node of the term of a body."""
    points = list(reversed(body))
    node = _point_term(web, points[0])
    for point in points[1:]:
        node = web.make(("choose", 0), [_point_term(web, point), node])
    return node


def part_term(web, layer, part):
    """Returns the node of the term of a part beneath a layer."""
    number = _highest_values(web.book, layer)
    if number == 0:
        return body_term(web, part[0])
    size = web.book.count_at(number)
    word = "get" if web.book.word_at(number) == "cell" else "look"
    children = [part_term(web, number, part[value::size]) for value in range(size)]
    return web.make((word, number), children)


def term_of(web, form):
    """Returns the node of the term of a form."""
    return part_term(web, web.book.size + 1, form)


def end_of(web, node):
    """Returns the end of a node that is its term."""
    entries = {}
    while web.deed_of(node)[0] in ("put", "note"):
        _, layer, entry = web.deed_of(node)
        entries[layer] = entry
        node = web.children_of(node)[0]
    deed = web.deed_of(node)
    beneath = web.book.size if deed[0] == "ret" else deed[1] - 1
    kept = tuple([entries.get(at + 1, 0) for at in range(beneath)])
    if deed[0] == "ret":
        return "done", deed[1], kept
    if deed[0] == "fail":
        return (*deed, kept)
    parts = [part_of(web, deed[1], child) for child in web.children_of(node)]
    return (*deed, kept, tuple(parts))


def _branches(web, node):
    """Returns the children of a choose or a draw, and none of any other node."""
    if web.deed_of(node)[0] in ("choose", "draw"):
        return web.children_of(node)
    return ()


def body_of(web, node):
    """Returns the body of a node that is made of choices and draws over terms of ends."""
    bodies = {}
    for each in ordered(node, lambda at: _branches(web, at)):
        behind = [bodies[child] for child in _branches(web, each)]
        if behind:
            bodies[each] = body_above(web.book.kernel, web.deed_of(each), behind[0], behind[1])
        else:
            bodies[each] = only(end_of(web, each))
    return bodies[node]


def part_of(web, layer, node):
    """Returns the part beneath a layer of a node that is its term."""
    number = _highest_values(web.book, layer)
    if number == 0:
        return (body_of(web, node),)
    parts = [part_of(web, number, child) for child in web.children_of(node)]
    return tuple([body for row in zip(*parts) for body in row])
