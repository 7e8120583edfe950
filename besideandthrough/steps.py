"""The axioms: which steps lead from one node of a web to another."""

from besideandthrough.books import choices, draws
from besideandthrough.shares import lowest, plus, times
from besideandthrough.webs import ordered

# The kernels whose two pieces are put through each other.
THROUGH = ("twochoose", "twodraw", "mixed")
FREE = ("choose", "draw")


def _layer_of(deed):
    """Returns the number of the layer of a deed; it is 0 for choose and draw."""
    return 0 if deed[0] in FREE else deed[1]


def may_swap(book, one, other):
    """Returns True if two deeds may change places, otherwise False."""
    if "ret" in (one[0], other[0]):
        return False
    if one[0] in FREE and other[0] in FREE:
        return book.kernel in THROUGH and one[:2] != other[:2]
    here, there = _layer_of(one), _layer_of(other)
    return here != there and book.word_at(max(here, there)) in ("cell", "setting", "note")


def _branches(web, sort, node):
    """Returns the children of a node whose deed begins with a word and a piece."""
    return web.children_of(node) if web.deed_of(node)[:2] == sort else ()


def members_of(web, piece, node):
    """Returns the list of the members of a node for a choosing piece, ascending."""
    sort = ("choose", piece)
    found = ordered(node, lambda at: _branches(web, sort, at))
    return sorted([member for member in found if not _branches(web, sort, member)])


def shares_over(web, node, follow):
    """Returns a dict from nodes to their shares in a node.

    The function `follow` returns the children of the draws that count, and none of others.
    """
    shares = {node: (1, 1)}
    found = {}
    # Each node stands behind all those that lead to it, so that its share is whole.
    for each in reversed(ordered(node, follow)):
        share = shares[each]
        children = follow(each)
        if not children:
            found[each] = share
            continue
        _, _, num, den = web.deed_of(each)
        for child, part in zip(children, (num, den - num)):
            shares[child] = plus(shares.get(child, (0, 1)), times(share, lowest(part, den)))
    return found


def shares_of(web, piece, node):
    """Returns a dict from nodes to their shares in a node for a drawing piece."""
    sort = ("draw", piece)
    return shares_over(web, node, lambda at: _branches(web, sort, at))


# The axioms below return True if there is a step from a to b.


def _child(web, node, place):
    return web.children_of(node)[place]


def _are_shortened(web, a, b, deeds):
    """Returns True if b has the children of a, or those behind them.

    Behind the child at a place is its own child at the place that deeds tells with a
    deed; it may stand there instead of the child if the child has this deed.
    """
    for place, (old, new) in enumerate(zip(web.children_of(a), web.children_of(b))):
        deed, at = deeds[place]
        if new != old and (web.deed_of(old) != deed or new != _child(web, old, at)):
            return False
    return True


def _idle(web, a, b):
    if web.deed_of(a)[0] not in ("get", "look"):
        return False
    return min(web.children_of(a)) == b == max(web.children_of(a))


def _corner(web, a, b):
    deed = web.deed_of(a)
    if deed[0] not in ("get", "look") or web.deed_of(b) != deed:
        return False
    return _are_shortened(web, a, b, [(deed, at) for at in range(len(web.children_of(a)))])


def _regot(web, a, b):
    deed = web.deed_of(a)
    if deed[0] != "get" or web.deed_of(b) != deed:
        return False
    puts = [("put", deed[1], at) for at in range(len(web.children_of(a)))]
    return _are_shortened(web, a, b, [(put, 0) for put in puts])


def _putput(web, a, b):
    if web.deed_of(a)[0] != "put" or _child(web, a, 0) != b:
        return False
    return web.deed_of(b)[:2] == web.deed_of(a)[:2]


def _putget(web, a, b):
    deed = web.deed_of(a)
    if deed[0] != "put" or web.deed_of(b) != deed:
        return False
    child = _child(web, a, 0)
    return web.deed_of(child) == ("get", deed[1]) and _child(web, b, 0) == _child(web, child, deed[2])


def _unit(web, a, b):
    deed = web.deed_of(a)
    return deed[0] == "note" and deed[2] == 0 and _child(web, a, 0) == b


def _notes(web, a, b):
    deed = web.deed_of(a)
    if deed[0] != "note" or web.deed_of(_child(web, a, 0))[:2] != deed[:2]:
        return False
    child = _child(web, a, 0)
    product = web.book.product(deed[1], deed[2], web.deed_of(child)[2])
    return web.deed_of(b) == (*deed[:2], product) and _child(web, b, 0) == _child(web, child, 0)


def _lot(web, a, b):
    for piece in range(choices(web.book.kernel)):
        if members_of(web, piece, a) == members_of(web, piece, b):
            return True
    return False


def _share(web, a, b):
    for piece in range(draws(web.book.kernel)):
        if shares_of(web, piece, a) == shares_of(web, piece, b):
            return True
    return False


def _spread(web, a, b):
    deed = web.deed_of(a)
    if web.book.kernel != "spread" or deed[0] != "draw" or web.deed_of(b)[0] != "choose":
        return False
    x, y = web.children_of(a)
    if web.deed_of(y)[0] != "choose":
        return False
    for child, behind in zip(web.children_of(b), web.children_of(y)):
        if web.deed_of(child) != deed or web.children_of(child) != (x, behind):
            return False
    return True


def _swap(web, a, b):
    deed = web.deed_of(a)
    children = web.children_of(a)
    if not children:
        return False
    other = web.deed_of(children[0])
    if [child for child in children if web.deed_of(child) != other]:
        return False
    if not may_swap(web.book, deed, other):
        return False
    rows = [web.children_of(child) for child in children]
    columns = list(zip(*rows))
    if not columns:
        return b == children[0]
    if web.deed_of(b) != other:
        return False
    for child, column in zip(web.children_of(b), columns):
        if web.deed_of(child) != deed or web.children_of(child) != column:
            return False
    return True


AXIOMS = {
    "idle": _idle,
    "corner": _corner,
    "regot": _regot,
    "putput": _putput,
    "putget": _putget,
    "unit": _unit,
    "notes": _notes,
    "lot": _lot,
    "share": _share,
    "spread": _spread,
    "swap": _swap,
}


def is_step(web, word, a, b):
    """Returns True if there is a step from a to b by the axiom with a word."""
    if word not in AXIOMS:
        return False
    axiom = AXIOMS[word]
    return axiom(web, a, b)
