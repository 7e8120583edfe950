"""Deeds and webs."""

from math import gcd

from besideandthrough.books import choices, draws, like_books
from besideandthrough.errors import WebError
from besideandthrough.values import is_value_text

# For each word of a deed, how many parts the deed has.
LENGTHS = {
    "ret": 2,
    "fail": 3,
    "choose": 2,
    "draw": 4,
    "get": 2,
    "put": 3,
    "look": 2,
    "note": 3,
    "ask": 3,
}
# For each deed of a layer, the word of the layer.
LAYERS = {
    "fail": "fail",
    "get": "cell",
    "put": "cell",
    "look": "setting",
    "note": "note",
    "ask": "outside",
}
# The greatest b of a draw whose second part must be narrow.
NARROW = 6


def _is_draw(kernel, piece, num, den):
    """Returns True if a kernel has a draw by a piece with these shares."""
    if not 0 <= piece < draws(kernel):
        return False
    if not 1 <= num < den or gcd(num, den) != 1:
        return False
    return den <= NARROW or not (kernel == "mixed" or piece == 1)


def _ways_at_layer(book, deed):
    """Returns the number of ways of a deed that names a layer, or -1."""
    word, layer = deed[0], deed[1]
    if not 1 <= layer <= book.size or book.word_at(layer) != LAYERS[word]:
        return -1
    many = book.count_at(layer)
    if word in ("get", "look"):
        return many
    if not 0 <= deed[2] < many:
        return -1
    if word == "ask":
        return book.ways_at(layer, deed[2])
    return 0 if word == "fail" else 1


def ways_on(book, deed):
    """Returns the number of ways of a deed, or -1 if it is not a deed of the book."""
    word = deed[0]
    if len(deed) != LENGTHS.get(word, 0):
        return -1
    if word == "ret":
        return 0 if is_value_text(deed[1]) else -1
    if word == "choose":
        return 2 if 0 <= deed[1] < choices(book.kernel) else -1
    if word == "draw":
        return 2 if _is_draw(book.kernel, deed[1], deed[2], deed[3]) else -1
    return _ways_at_layer(book, deed)


class Web:
    """A store of nodes over one book; no two of them are equal."""

    def __init__(self, book):
        self.book = book
        self.nodes = []
        self.sizes = []
        self.numbers = {}

    def __iter__(self):
        return iter(self.nodes)

    def make(self, deed, children):
        """Returns the number of the node, which is added if there is no equal one."""
        node = (deed, tuple(children))
        if node not in self.numbers:
            self._refuse(deed, node[1])
            self.numbers[node] = len(self.nodes)
            self.nodes.append(node)
            self.sizes.append(1 + sum([self.sizes[child] for child in node[1]]))
        return self.numbers[node]

    def _refuse(self, deed, children):
        """Raises WebError if there cannot be a node with this deed and children."""
        if ways_on(self.book, deed) != len(children):
            raise WebError("no deed of the book with as many children")
        for child in children:
            if not 0 <= child < len(self.nodes):
                raise WebError("a child is not the number of a node")

    def deed_of(self, node):
        """Returns the deed of a node."""
        return self.nodes[node][0]

    def children_of(self, node):
        """Returns the tuple of the children of a node."""
        return self.nodes[node][1]

    def size_of(self, node):
        """Returns the tree size of a node."""
        return self.sizes[node]


def _first_missing(followers, placed):
    """Returns a list of the first follower that is not placed; it is empty if all are."""
    for follower in followers:
        if follower not in placed:
            return [follower]
    return []


def ordered(root, follow):
    """Returns the list of all that root leads to, each one behind those that follow it.

    Followers are ints, strings or tuples of these. What follows is asked for several
    times, and none may lead back to itself.
    """
    placed = {}
    waiting = [root]
    while waiting:
        missing = _first_missing(follow(waiting[-1]), placed)
        if missing:
            waiting.extend(missing)
        else:
            placed[waiting.pop()] = True
    return list(placed)


def reached(web, root):
    """Returns the list of the nodes of the part under a node, in its order."""
    return ordered(root, lambda node: web.children_of(node))


def copied(web, source, root):
    """Makes the part under a node of another web, and returns the node for root."""
    if not like_books(web.book, source.book):
        raise WebError("the books of the webs differ")
    numbers = {}
    for node in reached(source, root):
        children = [numbers[child] for child in source.children_of(node)]
        numbers[node] = web.make(source.deed_of(node), children)
    return numbers[root]
