"""Slimmed nodes by the words of points [113] to [117], written apart from the program.

A path is a list of pairs of a node and the number of the way by which it goes on there;
the last pair has the way None.
"""

from besideandthrough.webruns import ways

READS = ("get", "look")
WRITES = ("put", "note")


def paths(web, root):
    """All paths from a node to the nodes without children."""
    children = web.children_of(root)
    if not children:
        yield [(root, None)]
    for way, child in enumerate(children):
        for path in paths(web, child):
            yield [(root, way)] + path


def known(web, path, at, layer):
    """The entry of a layer that is known on a path at a place, or None."""
    for node, way in reversed(path[:at]):
        deed = web.deed_of(node)
        if deed[0] in READS and deed[1] == layer:
            return way
        if deed[:2] == ("put", layer):
            return deed[2]
        if deed[0] == "ask" and deed[1] > layer:
            return None
    return None


def is_lost(web, path, layer):
    """Whether a write of a layer before a path is lost on it."""
    for node, _ in path:
        deed = web.deed_of(node)
        if deed[0] in WRITES and deed[1] == layer:
            return True
        if deed == ("get", layer) or (deed[0] == "ask" and deed[1] > layer):
            return False
        if not web.children_of(node):
            return deed[0] == "fail" and deed[1] < layer
    raise AssertionError


def sorts_of(web, node, lost=None):
    """The sorts of the needless nodes, apart from those of known entries, that a node has."""
    deed = web.deed_of(node)
    children = web.children_of(node)
    if deed[0] in WRITES:
        if all(is_lost(web, path, deed[1]) for path in paths(web, children[0])):
            yield "overtaken"
    if deed[0] == "note" and deed[2] == 0:
        yield "unit"
    if deed[0] in ("get", "look", "choose", "draw") and len(set(children)) == 1:
        yield "same"
    if deed[0] == "get":
        for k, kept in enumerate(children):
            rest = [child for at, child in enumerate(children) if at != k]
            if all(web.deed_of(child) == ("put", deed[1], k)
                   and web.children_of(child) == (kept,) for child in rest):
                yield "put"
    if len(children) >= 2 and len({web.deed_of(child) for child in children}) == 1:
        word, layer = (*web.deed_of(children[0]), 0)[:2]
        if word in WRITES and deed != ("get", layer):
            if not (deed[0] == "ask" and deed[1] > layer):
                yield "first"


def needless(web, root):
    """The set of the sorts of the needless nodes under a node."""
    found = set()
    nodes = set()
    for path in paths(web, root):
        for at, (node, _) in enumerate(path):
            nodes.add(node)
            deed = web.deed_of(node)
            if deed[0] in READS and known(web, path, at, deed[1]) is not None:
                found.add("read")
            if deed[0] == "put" and known(web, path, at, deed[1]) == deed[2]:
                found.add("known put")
    for node in nodes:
        found.update(sorts_of(web, node))
    return found


def longest(web, root):
    """The number of nodes on the longest path."""
    return 1 + max((longest(web, child) for child in web.children_of(root)), default=0)


def runs(web, root, start):
    """A dict from the outcomes of the runs of a node to the least and most deeds for each."""
    found = {}
    for _, _, outcome, deeds in ways(web, root, start):
        least, most = found.get(outcome, (deeds, deeds))
        found[outcome] = min(least, deeds), max(most, deeds)
    return found
