"""Acting: the form of a deed from the forms of its ways."""

from besideandthrough.bodies import carried, ends_of, only
from besideandthrough.forms import body_over, uses
from besideandthrough.states import place_below, starts
from besideandthrough.webs import reached


def _entries_behind(book, entries, notes):
    """Returns kept entries with notes written ahead."""
    found = list(entries)
    for at, entry in enumerate(entries):
        if notes[at] != 0:
            found[at] = book.product(at + 1, notes[at], entry)
    return tuple(found)


def _end_behind(book, end, notes):
    """Returns an end with notes written ahead."""
    if end[0] != "ask":
        return (*end[:-1], _entries_behind(book, end[-1], notes))
    _, layer, outside, entries, children = end
    # What is beneath the layer of an ask begins anew in its children.
    above = (0,) * layer + tuple(notes[layer:])
    parts = [tuple([prefixed(book, body, above) for body in part]) for part in children]
    return "ask", layer, outside, _entries_behind(book, entries, notes), tuple(parts)


def prefixed(book, body, notes):
    """Returns the body with notes written ahead."""
    if not any(notes):
        return body
    images = [only(_end_behind(book, end, notes)) for end in ends_of(body)]
    return carried(book.kernel, body, images)


def _notes_of(book, state):
    """Returns the notes of a state, with 0 for all other layers."""
    return [entry if layer[0] == "note" else 0 for layer, entry in zip(book.layers, state)]


def body_in(book, form, state):
    """Returns the body in a form at a state, which may have notes."""
    body = form[place_below(book, book.size + 1, state)]
    return prefixed(book, body, _notes_of(book, state))


def act(book, deed, forms):
    """Returns the form of a deed whose ways have these forms."""
    found = []
    for state in starts(book):
        used = uses(book, deed, state)
        bodies = [body_in(book, forms[way], each) for way, each in used]
        found.append(body_over(book, deed, state, bodies))
    return tuple(found)


def form_from_ends(web, root):
    """Returns the form of a node, by acting for each node of the part under it."""
    forms = {}
    for node in reached(web, root):
        behind = [forms[child] for child in web.children_of(node)]
        forms[node] = act(web.book, web.deed_of(node), behind)
    return forms[root]
