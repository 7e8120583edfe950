"""Squares: how deeds of the second piece become deeds of the first one."""

from besideandthrough.moves import chained, swapped, under


def is_second(web, node):
    """Returns True if a node has a deed of the second piece, otherwise False."""
    deed = web.deed_of(node)
    if deed[0] == "draw" and web.book.kernel == "mixed":
        return True
    return deed[0] in ("choose", "draw") and deed[1] == 1


def _first_deed(web, deed):
    """Returns the deed of the first piece that stands for one of the second piece."""
    if deed[0] == "choose" or web.book.kernel == "mixed":
        return "choose", 0
    return "draw", 0, deed[2], deed[3]


def _axiom_of(deed):
    """Returns the word of the axiom that regroups the deeds of a piece."""
    return "lot" if deed[0] == "choose" else "share"


def _even_deed(deed, many):
    """Returns the deed at the top of an even tree over many nodes, by the piece of a deed."""
    if deed[0] == "choose":
        return deed[:2]
    return "draw", deed[1], 1, many


def _even_tree(web, deed, nodes):
    """Returns the even tree over a list of nodes, by the piece of a deed."""
    tree = nodes[-1]
    for many in range(2, len(nodes) + 1):
        tree = web.make(_even_deed(deed, many), [nodes[-many], tree])
    return tree


def _under_even(draft, tree, numbers):
    """Leads from an even tree to the even tree over what the rows of its nodes lead to."""
    if len(numbers) == 1:
        return numbers[0]
    rest = _under_even(draft, draft.web.children_of(tree)[1], numbers[1:])
    return under(draft, tree, [numbers[0], rest])


def _across(draft, node, many):
    """Exchanges the deed of a node with both children's even trees over many nodes."""
    if many == 1:
        return draft.like(node)
    row = swapped(draft, node)
    first, rest = draft.web.children_of(draft.right(row))
    refs = [draft.like(first), _across(draft, rest, many - 1)]
    return draft.join(row, under(draft, draft.right(row), refs))


def _transposed(draft, tree, left, many):
    """Exchanges an even tree over the last `left` lines with the lines over many nodes."""
    if left == 1:
        return draft.like(tree)
    line, rest = draft.web.children_of(tree)
    inner = _transposed(draft, rest, left - 1, many)
    row = under(draft, tree, [draft.like(line), inner])
    return draft.join(row, _across(draft, draft.right(row), many))


def collapse(draft, node):
    """Leads from a node with a deed of the second piece to the one of the first piece."""
    web = draft.web
    if not is_second(web, node):
        return draft.like(node)
    deed = web.deed_of(node)
    first = _first_deed(web, deed)
    x, y = web.children_of(node)
    times, many = (1, 2) if deed[0] == "choose" else deed[2:]
    nodes = [x] * times + [y] * (many - times)
    turns = [nodes[at:] + nodes[:at] for at in range(many)]
    end = web.make(first, [x, y])
    outer, inner = _axiom_of(first), _axiom_of(deed)
    same = _even_tree(web, first, [node] * many)
    lines = [draft.by(inner, node, _even_tree(web, deed, turn)) for turn in turns]
    columns = [draft.by(outer, _even_tree(web, first, turn), end) for turn in turns]
    row = chained(draft, draft.by(outer, node, same), _under_even(draft, same, lines))
    row = draft.join(row, _transposed(draft, draft.right(row), many, many))
    row = draft.join(row, _under_even(draft, draft.right(row), columns))
    return draft.join(row, draft.by(inner, draft.right(row), end))
