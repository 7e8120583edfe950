"""Slimming: leaving out needless deeds."""

from besideandthrough.drafts import Draft
from besideandthrough.knowing import known_left_out
from besideandthrough.moves import swapped, under
from besideandthrough.overtaking import Losses, is_write, overtaken_left_out
from besideandthrough.webs import reached

# For each word of a deed that is needless over one child, the axiom that leaves it out.
NEEDLESS = {"get": "idle", "look": "idle", "choose": "lot", "draw": "share"}


def _all_equal(things):
    return all([thing == things[0] for thing in things])


def _put_instead(web, node):
    """Returns a list of the put that can stand for a get of its cell, or an empty list."""
    deed = web.deed_of(node)
    children = web.children_of(node)
    for value, child in enumerate(children):
        put = ("put", deed[1], value)
        others = children[:value] + children[value + 1:]
        if all([web.deed_of(each) == put and web.children_of(each) == (child,) for each in others]):
            return [others[0]]
    return []


def _begins_with_write(web, node):
    """Returns True if a write that all children of a node begin with may stand before it."""
    deed = web.deed_of(node)
    children = web.children_of(node)
    if len(children) < 2 or not is_write(web.deed_of(children[0])):
        return False
    write = web.deed_of(children[0])
    if deed[0] == "ask" and deed[1] > write[1] or deed == ("get", write[1]):
        return False
    return _all_equal([web.deed_of(child) for child in children])


def _merged(draft, node):
    """Leads from a node to the child that all its ways have, or to a put in its place."""
    web = draft.web
    deed = web.deed_of(node)
    children = web.children_of(node)
    if deed[0] in NEEDLESS and _all_equal(children):
        return draft.by(NEEDLESS[deed[0]], node, children[0])
    if deed[0] == "get":
        for put in _put_instead(web, node):
            same = web.make(deed, [put] * len(children))
            row = draft.turn(draft.by("regot", same, node))
            return draft.join(row, draft.by("idle", same, put))
    return draft.like(node)


def _written_first(draft, node):
    """Leads from a node to the writes that all its children begin with, over the rest."""
    web = draft.web
    swaps = []
    while _begins_with_write(web, node):
        swaps.append(swapped(draft, node))
        node = web.children_of(draft.right(swaps[-1]))[0]
    row = _merged(draft, node)
    for swap in reversed(swaps):
        row = draft.join(swap, under(draft, draft.right(swap), [row]))
    return row


def _slimmer(draft, losses, node):
    """Leads from a node over slim children to a slimmer one, or to itself."""
    deed = draft.web.deed_of(node)
    if losses.is_overtaken(node):
        return overtaken_left_out(draft, node)
    if deed[0] == "note" and deed[2] == 0:
        return draft.by("unit", node, draft.web.children_of(node)[0])
    return _written_first(draft, node)


def _slimmed_once(draft, losses, root):
    """Leads from a node to a slimmer one, or to itself if it is slim."""
    row = known_left_out(draft, root)
    rows = {}
    for node in reached(draft.web, draft.right(row)):
        refs = [rows[child] for child in draft.web.children_of(node)]
        rows[node] = under(draft, node, refs) if refs else draft.like(node)
        rows[node] = draft.join(rows[node], _slimmer(draft, losses, draft.right(rows[node])))
    return draft.join(row, rows[draft.right(row)])


def slim(draft, root):
    """Returns the number of a row from a node to its slimmed node."""
    row = draft.like(root)
    losses = Losses(draft.web)
    while True:
        further = _slimmed_once(draft, losses, draft.right(row))
        if draft.right(further) == draft.left(further):
            return row
        row = draft.join(row, further)


def slimmed(web, root):
    """Returns a pair of the slimmed node and the paper that leads to it."""
    draft = Draft(web)
    row = slim(draft, root)
    return draft.right(row), draft.paper(row)
