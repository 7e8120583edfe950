"""Pushing: how a write goes into the term of a form."""

from besideandthrough.backs import branches
from besideandthrough.moves import is_read, read_first, swapped, under
from besideandthrough.settles import settle
from besideandthrough.webs import ordered

# Rows are kept by pairs of a node and a flag. Each leads from the write over the node to
# what stands behind it. With the flag, the node is a part or a whole body, which is settled.


def _is_own(deed, other):
    """Returns True if another deed is a read or a write of the layer of a write."""
    return other[0] in ("get", "put", "note") and other[1] == deed[1]


def _pairs_behind(web, deed, pair):
    """Returns the pairs whose rows a pair needs."""
    node, _ = pair
    children = web.children_of(node)
    if _is_own(deed, web.deed_of(node)):
        return [(children[deed[2]], True)] if is_read(web, node) else []
    whole = is_read(web, node) or web.deed_of(node)[0] == "ask"
    return [(child, whole) for child in children]


def noted_once(draft, node):
    """Leads from a note over a note of the same layer to the note of their product."""
    web = draft.web
    word, layer, member = web.deed_of(node)
    child = web.children_of(node)[0]
    product = web.book.product(layer, member, web.deed_of(child)[2])
    made = web.make((word, layer, product), web.children_of(child))
    return draft.by("notes", node, made)


def _into_own(draft, node, refs):
    """Leads from a write over a read or a write of its layer to what stands behind it."""
    web = draft.web
    deed = web.deed_of(node)
    child = web.children_of(node)[0]
    if deed[0] == "note":
        return noted_once(draft, node)
    if not refs:
        return draft.by("putput", node, child)
    row = draft.join(draft.by("putget", node, draft.left(refs[0])), refs[0])
    return draft.join(row, read_first(draft, web.deed_of(child), draft.right(row)))


def _row_for(draft, deed, pair, refs):
    """Returns the row of a pair; refs are the rows of the pairs that it needs."""
    web = draft.web
    node, whole = pair
    top = web.make(deed, [node])
    if _is_own(deed, web.deed_of(node)):
        return _into_own(draft, top, refs)
    row = swapped(draft, top)
    if refs:
        row = draft.join(row, under(draft, draft.right(row), refs))
    if whole and branches(web, node):
        row = draft.join(row, settle(draft, draft.right(row)))
    return row


def push(draft, deed, node):
    """Leads from a put or a note over the term of a form to the term of the form behind it."""
    rows = {}
    for pair in ordered((node, True), lambda at: _pairs_behind(draft.web, deed, at)):
        refs = [rows[behind] for behind in _pairs_behind(draft.web, deed, pair)]
        rows[pair] = _row_for(draft, deed, pair, refs)
    return rows[node, True]
