"""Overtaking: how writes go away that are lost behind other writes and failings."""

from besideandthrough.moves import swapped, under
from besideandthrough.pushes import noted_once
from besideandthrough.webs import ordered

WRITES = ("put", "note")


def is_write(deed):
    """Returns True if a deed is a put or a note, otherwise False."""
    return deed[0] in WRITES


def _stops(deed, layer):
    """Returns True if it is decided at a deed whether a write of a layer is overtaken."""
    if deed[0] in ("ret", "fail"):
        return True
    if deed[0] == "ask":
        return deed[1] > layer
    return deed[0] in ("get", "put", "note") and deed[1] == layer


def _overtakes(deed, layer):
    """Returns True if a write of a layer is lost at a deed at which it is decided."""
    if deed[0] == "fail":
        return deed[1] < layer
    return is_write(deed)


def _behind(web, layer, node):
    """Returns the nodes that a write of a layer goes on to behind a node."""
    return () if _stops(web.deed_of(node), layer) else web.children_of(node)


class Losses:
    """Tells for nodes of one web whether writes are lost behind them; each is found once."""

    def __init__(self, web):
        self.web = web
        self.found = {}

    def _missing_behind(self, layer, node):
        """Returns the nodes for which it must be told before it can be told for a node."""
        return () if (node, layer) in self.found else _behind(self.web, layer, node)

    def is_lost(self, layer, root):
        """Returns True if a write of a layer is lost on each path from a node."""
        missing = ordered(root, lambda at: self._missing_behind(layer, at))
        for node in missing:
            deed = self.web.deed_of(node)
            if (node, layer) not in self.found:
                behind = [self.found[child, layer] for child in _behind(self.web, layer, node)]
                self.found[node, layer] = all(behind) if behind else _overtakes(deed, layer)
        return self.found[root, layer]

    def is_overtaken(self, node):
        """Returns True if a node is a write that is overtaken, otherwise False."""
        deed = self.web.deed_of(node)
        return is_write(deed) and self.is_lost(deed[1], self.web.children_of(node)[0])


def _met(draft, node):
    """Leads on from a write over what overtakes it."""
    web = draft.web
    deed = web.deed_of(node)
    child = web.children_of(node)[0]
    if web.deed_of(child)[0] == "fail":
        return swapped(draft, node)
    if deed[0] == "put":
        return draft.by("putput", node, child)
    return noted_once(draft, node)


def overtaken_left_out(draft, node):
    """Leads from a write that is overtaken to what overtakes it."""
    web = draft.web
    deed = web.deed_of(node)
    rows = {}
    for each in ordered(web.children_of(node)[0], lambda at: _behind(web, deed[1], at)):
        top = web.make(deed, [each])
        if _stops(web.deed_of(each), deed[1]):
            rows[each] = _met(draft, top)
        else:
            row = swapped(draft, top)
            refs = [rows[child] for child in web.children_of(each)]
            rows[each] = draft.join(row, under(draft, draft.right(row), refs))
    return rows[web.children_of(node)[0]]
