"""Forms: the bodies of a node at the start states."""

from besideandthrough.bodies import body_above, only
from besideandthrough.plays import end_at
from besideandthrough.states import changed, kept, noted, starts, starts_below


def uses(book, deed, state):
    """Returns the pairs of a way and a state whose bodies a deed uses at a state."""
    word = deed[0]
    if word in ("get", "look"):
        return [(state[deed[1] - 1], state)]
    if word == "put":
        return [(0, changed(state, deed[1], deed[2]))]
    if word == "note":
        return [(0, noted(book, state, deed[1], deed[2]))]
    if word in ("choose", "draw"):
        return [(0, state), (1, state)]
    if word == "ask":
        below = starts_below(book, deed[1], state)
        return [(way, each) for way in range(book.ways_at(deed[1], deed[2])) for each in below]
    return []


def asked_end(book, deed, state, bodies):
    """Returns the end of an ask whose children have these bodies or worths, part by part."""
    _, layer, outside = deed
    size = len(bodies) // book.ways_at(layer, outside)
    parts = [tuple(bodies[at:at + size]) for at in range(0, len(bodies), size)]
    return "ask", layer, outside, kept(book, state, layer), tuple(parts)


def body_over(book, deed, state, bodies):
    """Returns the body of a deed at a state from the list of the bodies that it uses."""
    word = deed[0]
    if word in ("choose", "draw"):
        return body_above(book.kernel, deed, bodies[0], bodies[1])
    if word == "ask":
        return only(asked_end(book, deed, state, bodies))
    if word in ("ret", "fail"):
        return only(end_at(book, state, deed))
    return bodies[0]


def _worked_on(web, found, pair, over):
    """Finds what belongs to a pair, or returns the pair and those that it needs first."""
    node, state = pair
    deed = web.deed_of(node)
    children = web.children_of(node)
    needed = [(children[way], each) for way, each in uses(web.book, deed, state)]
    missing = [other for other in needed if other not in found]
    if missing:
        return [pair, *missing]
    found[pair] = over(deed, state, [found[other] for other in needed])
    return []


def find_at(web, found, pair, over):
    """Finds what belongs to a pair of a node and a state, and to all pairs that it needs.

    The function `over` makes it for a deed and a state from what belongs to the pairs
    that the deed uses. What has been found is kept in the dict `found`.
    """
    waiting = [pair]
    while waiting:
        each = waiting.pop()
        if each not in found:
            waiting.extend(_worked_on(web, found, each, over))
    return found[pair]


class Evaluator:
    """Finds the bodies of the nodes of one web and remembers them."""

    def __init__(self, web):
        self.web = web
        self.bodies = {}

    @property
    def worked(self):
        """The number of different pairs of a node and a state that have been needed."""
        return len(self.bodies)

    def __call__(self, node, state):
        """Returns the body of a node at a state."""
        book = self.web.book
        return find_at(self.web, self.bodies, (node, state),
                       lambda deed, at, bodies: body_over(book, deed, at, bodies))


def body_at(web, node, state):
    """Returns the body of a node at a state."""
    evaluator = Evaluator(web)
    return evaluator(node, state)


def form_of(web, root):
    """Returns the form of a node: its bodies at the start states."""
    evaluator = Evaluator(web)
    return tuple([evaluator(root, state) for state in starts(web.book)])
