"""Settling: how choices and draws over ends become the term of a body."""

from besideandthrough.backs import branches, leaf_shares, leaves_of
from besideandthrough.hulls import nearest
from besideandthrough.moves import chained, stepped, under
from besideandthrough.shares import whole_numbers
from besideandthrough.squares import collapse
from besideandthrough.steps import members_of
from besideandthrough.terms import chosen_term, drawn_term
from besideandthrough.webs import ordered

CHOICE = ("choose", 0)


def _by_ends(draft, nodes):
    """Returns terms of ends as a list in the order of their ends."""
    return sorted(nodes, key=lambda node: draft.backs.end(node))


def _drawn(draft, node):
    """Leads by one step from draws over terms of ends to the term of the share point."""
    shares = leaf_shares(draft.web, node)
    nodes = _by_ends(draft, list(shares))
    numbers = whole_numbers([shares[leaf] for leaf in nodes])
    return draft.by("share", node, drawn_term(draft.web, nodes, numbers))


def _collapsed(draft, node):
    """Leads from a tree over ends to one without deeds of the second piece."""
    rows = {}
    for each in ordered(node, lambda at: branches(draft.web, at)):
        refs = [rows[child] for child in branches(draft.web, each)]
        rows[each] = under(draft, each, refs) if refs else draft.like(each)
        rows[each] = draft.join(rows[each], collapse(draft, draft.right(rows[each])))
    return rows[node]


def _settled_at_once(draft, node):
    """Settles where the pieces are not spread over each other."""
    row = _collapsed(draft, node)
    tree = draft.right(row)
    if draft.web.deed_of(tree)[0] == "draw":
        return draft.join(row, _drawn(draft, tree))
    nodes = _by_ends(draft, leaves_of(draft.web, tree))
    return draft.join(row, draft.by("lot", tree, chosen_term(draft.web, nodes)))


# The rest is for the kernel `spread`.


def _spread_out(draft, node):
    """Leads from a draw to choices over draws with the members of its second child."""
    web = draft.web
    x, y = web.children_of(node)
    if web.deed_of(y) != CHOICE:
        return draft.like(node)
    made = [web.make(web.deed_of(node), [x, child]) for child in web.children_of(y)]
    row = stepped(draft, "spread", node, CHOICE, made)
    rest = _spread_out(draft, made[1])
    return draft.join(row, under(draft, draft.right(row), [draft.like(made[0]), rest]))


def _exchanged(draft, node):
    """Leads from a draw to the draw whose children are exchanged."""
    word, piece, num, den = draft.web.deed_of(node)
    x, y = draft.web.children_of(node)
    return stepped(draft, "share", node, (word, piece, den - num, den), [y, x])


def _over_choices(draft, node, lead):
    """Leads from choices to what a function leads each node to that is no choice."""
    rows = {}
    for each in ordered(node, lambda at: _choice_children(draft.web, at)):
        refs = [rows[child] for child in _choice_children(draft.web, each)]
        rows[each] = under(draft, each, refs) if refs else lead(each)
    return rows[node]


def _choice_children(web, node):
    return web.children_of(node) if web.deed_of(node) == CHOICE else ()


def _draws_apart(draft, node):
    """Leads from a draw over terms of bodies to choices over terms of share points."""
    def inner(draw):
        if draft.web.deed_of(draft.web.children_of(draw)[0]) != CHOICE:
            return _drawn(draft, draw)
        row = _exchanged(draft, draw)
        row = draft.join(row, _spread_out(draft, draft.right(row)))
        points = _over_choices(draft, draft.right(row), lambda at: _drawn(draft, at))
        return draft.join(row, points)

    row = _spread_out(draft, node)
    return draft.join(row, _over_choices(draft, draft.right(row), inner))


def _chosen(draft, one, other):
    return draft.web.make(CHOICE, [one, other])


def _carried_in(draft, whole, row, part):
    """Leads from a choice between C and u p v to C.

    Here C is `whole`, v is the left side's second child in the row from (C or v) to C,
    and `part` is a pair of the deed p and the node u, a member of C.
    """
    web = draft.web
    deed, u = part
    v = web.children_of(draft.left(row))[1]
    w = web.make(deed, [u, v])
    with_u = _chosen(draft, whole, u)
    doubled = stepped(draft, "share", whole, deed, [whole, whole])
    members = draft.turn(draft.by("lot", with_u, whole))
    opened = under(draft, draft.right(doubled), [members, draft.turn(row)])
    parted = _spread_out(draft, draft.right(opened))
    left, right = web.children_of(draft.right(parted))
    turned = _exchanged(draft, right)
    turned = draft.join(turned, _spread_out(draft, draft.right(turned)))
    first, last = web.children_of(draft.right(turned))
    refs = [draft.like(first), draft.by("share", last, w)]
    turned = draft.join(turned, under(draft, draft.right(turned), refs))
    refs = [draft.like(left), turned]
    grown = chained(draft, doubled, opened, parted, under(draft, draft.right(parted), refs))
    begun = under(draft, _chosen(draft, whole, w), [grown, draft.like(w)])
    merged = draft.by("lot", draft.right(begun), draft.right(grown))
    return chained(draft, begun, merged, draft.turn(grown))


def _absorbed(draft, whole, node, parts):
    """Leads from a choice between the term of a body and a mixture of its members to it.

    The parts are pairs of a member and its weight in the mixture, which is above 0.
    """
    web = draft.web
    last, total = parts[-1]
    row = draft.by("lot", _chosen(draft, whole, last), whole)
    mixed = last
    for member, weight in reversed(parts[:-1]):
        total += weight
        mixed = drawn_term(web, [member, mixed], [weight, total - weight])
        row = _carried_in(draft, whole, row, (web.deed_of(mixed), member))
    refs = [draft.like(whole), draft.by("share", node, mixed)]
    return draft.join(under(draft, _chosen(draft, whole, node), refs), row)


def _gathered(draft, node, points, body):
    """Leads from choices over the terms of share points to the term of their body.

    The points are pairs of a share point and its term.
    """
    members = [term for point, term in points if point in body]
    whole = chosen_term(draft.web, members)
    row = draft.like(whole)
    for point, term in points:
        if point not in body:
            _, _, weights = nearest(point, body)
            parts = [(member, weight) for member, weight in zip(members, weights) if weight > 0]
            refs = [row, draft.like(term)]
            row = chained(draft, under(draft, _chosen(draft, draft.left(row), term), refs),
                          _absorbed(draft, whole, term, parts))
    return draft.join(draft.by("lot", node, draft.left(row)), row)


def _bases(draft, node):
    """Returns the nodes that are settled before a node."""
    if not draft.backs.has_choice(node):
        return ()
    if draft.web.deed_of(node) == CHOICE:
        return members_of(draft.web, 0, node)
    return draft.web.children_of(node)


def _settled_over(draft, node, rows):
    """Settles a node whose bases have been settled by rows."""
    web = draft.web
    if not draft.backs.has_choice(node):
        return _drawn(draft, node) if branches(web, node) else draft.like(node)
    if web.deed_of(node) == CHOICE:
        row = _over_choices(draft, node, lambda at: rows[at])
    else:
        row = under(draft, node, [rows[child] for child in web.children_of(node)])
        row = draft.join(row, _draws_apart(draft, draft.right(row)))
    terms = members_of(web, 0, draft.right(row))
    points = sorted([(draft.backs.body(term)[0], term) for term in terms])
    body = draft.backs.body(node)
    row = draft.join(row, _gathered(draft, draft.right(row), points, body))
    draft.backs.remember(draft.right(row), body)
    return row


def _settled_in_order(draft, node):
    """Settles from the ends to the root."""
    # This refuses a body that is too large before anything is led.
    draft.backs.body(node)
    rows = {}
    for each in ordered(node, lambda at: _bases(draft, at)):
        rows[each] = _settled_over(draft, each, rows)
    return rows[node]


def settle(draft, node):
    """Leads from a tree over ends to the term of its body."""
    if not branches(draft.web, node):
        return draft.like(node)
    if draft.web.book.kernel == "spread":
        return _settled_in_order(draft, node)
    return _settled_at_once(draft, node)
