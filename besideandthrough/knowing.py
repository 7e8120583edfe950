"""Knowing: how reads and puts go away whose entry is known on each path to them.

Rows are kept by pairs of a node and a flag. Without the flag, the row leads from the node
to what it becomes if the entry of a layer is not known. With the flag, it leads to a read
of the layer over what the node becomes for each entry.
"""

from besideandthrough.moves import READS, read_first, shortened, swapped, under
from besideandthrough.webs import ordered, reached


def _reads(deed, layer):
    """Returns True if a deed is the read of a layer, otherwise False."""
    return deed[0] in READS and deed[1] == layer


def _tells(deed, layer):
    """Returns True if the entry of a layer is known behind a deed, otherwise False."""
    return _reads(deed, layer) or deed[:2] == ("put", layer)


def _hides(deed, layer):
    """Returns True if an entry of a layer is not known any more behind a deed."""
    return deed[0] == "ask" and deed[1] > layer


def _pairs_behind(web, layer, pair):
    """Returns the pairs whose rows a pair needs."""
    node, flag = pair
    deed = web.deed_of(node)
    if _tells(deed, layer):
        flag = True
    elif _hides(deed, layer):
        flag = False
    return [(child, flag) for child in web.children_of(node)]


def _taken_over(draft, layer, node):
    """Leads from a read or put over reads of its layer to what it reads or puts there."""
    web = draft.web
    deed = web.deed_of(node)
    children = web.children_of(node)
    if deed[0] == "put":
        made = [web.children_of(children[0])[deed[2]]]
        return draft.by("putget", node, web.make(deed, made))
    made = [web.children_of(child)[at] for at, child in enumerate(children)]
    return draft.by("corner", node, web.make(deed, made))


def _read_before(draft, read, node):
    """Leads from a node to a read over it; a put of the entry that is read goes away."""
    web = draft.web
    row = read_first(draft, read, node)
    deed = web.deed_of(node)
    if deed[:2] != ("put", read[1]):
        return row
    children = list(web.children_of(draft.right(row)))
    children[deed[2]] = web.children_of(node)[0]
    return draft.join(row, draft.by("regot", draft.right(row), web.make(read, children)))


def _row_for(draft, read, pair, refs):
    """Returns the row of a pair; refs are the rows of the pairs that it needs."""
    node, flag = pair
    layer = read[1]
    deed = draft.web.deed_of(node)
    row = under(draft, node, refs) if refs else draft.like(node)
    if _tells(deed, layer):
        row = shortened(draft, draft.join(row, _taken_over(draft, layer, draft.right(row))))
    if not flag or _reads(deed, layer):
        return row
    if not refs or _hides(deed, layer) or _tells(deed, layer):
        return draft.join(row, _read_before(draft, read, draft.right(row)))
    return draft.join(row, swapped(draft, draft.right(row)))


def _layer_known(draft, read, node):
    """Leads from a node to one that does not read or put a known entry of a layer."""
    rows = {}
    for pair in ordered((node, False), lambda at: _pairs_behind(draft.web, read[1], at)):
        refs = [rows[behind] for behind in _pairs_behind(draft.web, read[1], pair)]
        rows[pair] = _row_for(draft, read, pair, refs)
    return rows[node, False]


def _reads_for(web, node):
    """Returns the reads of all layers that are read or put under a node."""
    book = web.book
    deeds = [web.deed_of(each) for each in reached(web, node)]
    layers = sorted({deed[1] for deed in deeds if deed[0] in ("get", "put", "look")})
    words = {"cell": "get", "setting": "look"}
    return [(words[book.word_at(layer)], layer) for layer in layers]


def known_left_out(draft, node):
    """Leads from a node to one that does not read or put any known entry."""
    row = draft.like(node)
    for read in _reads_for(draft.web, node):
        row = draft.join(row, shortened(draft, _layer_known(draft, read, draft.right(row))))
    return row
