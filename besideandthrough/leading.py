"""Leading: from a node to the term of its form, and from one node to another one."""

from besideandthrough.drafts import Draft
from besideandthrough.moves import is_read, read_first, swapped, under
from besideandthrough.pushes import push
from besideandthrough.settles import settle
from besideandthrough.states import has_values
from besideandthrough.webs import reached


def _exchanged(draft, node, above, finish):
    """Exchanges a deed with the reads of layers above one, with which all children begin.

    Behind these reads, the function `finish` leads on.
    """
    web = draft.web
    read = web.children_of(node)[0]
    if not is_read(web, read) or web.deed_of(read)[1] <= above:
        return finish(draft, node)
    row = swapped(draft, node)
    children = web.children_of(draft.right(row))
    refs = [_exchanged(draft, child, above, finish) for child in children]
    return draft.join(row, under(draft, draft.right(row), refs))


def _cornered(draft, node):
    """Leads from a read over the same reads to the read over what they lead to."""
    web = draft.web
    rows = [web.children_of(child) for child in web.children_of(node)]
    made = web.make(web.deed_of(node), [row[at] for at, row in enumerate(rows)])
    return draft.by("corner", node, made)


def _written_behind(draft, deed, node):
    """Leads from a write over a node to the reads of the node over the write."""
    web = draft.web
    top = web.make(deed, [node])
    if not is_read(web, node):
        return draft.like(top)
    row = swapped(draft, top)
    refs = [_written_behind(draft, deed, child) for child in web.children_of(node)]
    return draft.join(row, under(draft, draft.right(row), refs))


def _cell_kept(draft, layer, node):
    """Leads from a node to a get over the node behind the put of each value."""
    web = draft.web
    row = read_first(draft, ("get", layer), node)
    puts = [("put", layer, value) for value in range(web.book.count_at(layer))]
    written = web.make(("get", layer), [web.make(put, [node]) for put in puts])
    row = draft.join(row, draft.turn(draft.by("regot", written, draft.right(row))))
    refs = [_written_behind(draft, put, node) for put in puts]
    return draft.join(row, under(draft, written, refs))


def _layer_kept(draft, layer, kept, node):
    """Leads from a node to the term that also keeps a layer, beneath the layer `kept`."""
    web = draft.web
    word = web.book.word_at(layer)
    if word == "cell" and layer < kept:
        return _cell_kept(draft, layer, node)
    if has_values(web.book, layer):
        return read_first(draft, ("get" if word == "cell" else "look", layer), node)
    if word == "note" and layer < kept:
        note = ("note", layer, 0)
        row = draft.turn(draft.by("unit", web.make(note, [node]), node))
        return draft.join(row, _written_behind(draft, note, node))
    return draft.like(node)


def _wrapped(draft, node, beneath, kept):
    """Leads from an end to its term beneath a layer; what is beneath `kept` is kept."""
    row = draft.like(node)
    for layer in range(1, beneath):
        row = draft.join(row, _layer_kept(draft, layer, kept, draft.right(row)))
    return row


def _asked(draft, node):
    layer = draft.web.deed_of(node)[1]
    return _wrapped(draft, node, layer, layer)


def _over_terms(draft, node):
    """Leads from a deed over terms of forms to the term of its form."""
    deed = draft.web.deed_of(node)
    beyond = draft.web.book.size + 1
    if deed[0] == "ret":
        return _wrapped(draft, node, beyond, beyond)
    if deed[0] == "fail":
        return _wrapped(draft, node, beyond, deed[1])
    if deed[0] in ("put", "note"):
        return push(draft, deed, draft.web.children_of(node)[0])
    if deed[0] == "ask":
        return _exchanged(draft, node, deed[1], _asked)
    if deed[0] in ("choose", "draw"):
        return _exchanged(draft, node, 0, settle)
    return _exchanged(draft, node, deed[1], _cornered)


def _led(draft, node, refs):
    """Leads from a node to the term of its form; `refs` are such rows of its children."""
    row = under(draft, node, refs) if refs else draft.like(node)
    return draft.join(row, _over_terms(draft, draft.right(row)))


class Leader:
    """Leads nodes over one draft, each of them once."""

    def __init__(self, draft):
        self.draft = draft
        self.led = {}

    @property
    def nodes_led(self):
        """The number of different nodes that have been led."""
        return len(self.led)

    def __call__(self, root):
        """Returns the number of a row from a node to the term of its form."""
        web = self.draft.web
        for node in reached(web, root):
            if node not in self.led:
                refs = [self.led[child] for child in web.children_of(node)]
                self.led[node] = _led(self.draft, node, refs)
        return self.led[root]


def lead(draft, root):
    """Returns the number of a row from a node to the term of its form."""
    leader = Leader(draft)
    return leader(root)


def paper_between(web, a, b):
    """Returns a paper from a node to another one, or None if their forms differ."""
    draft = Draft(web)
    leader = Leader(draft)
    first, second = leader(a), leader(b)
    if draft.right(first) != draft.right(second):
        return None
    return draft.paper(draft.join(first, draft.turn(second)))
