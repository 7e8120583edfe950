"""Undoing: programs behind which others lead back."""

from besideandthrough.bodies import ends_of, only
from besideandthrough.forms import form_of
from besideandthrough.grafts import grafted
from besideandthrough.states import kept, starts
from besideandthrough.terms import term_of


def _entries_of(book, word, entries):
    """Returns the tuple of the entries of all layers with a word."""
    return tuple([entry for layer, entry in zip(book.layers, entries) if layer[0] == word])


def _undoing(book, layer, member):
    """Returns a list of the member that undoes a member of a note layer, or an empty list."""
    members = range(book.count_at(layer))
    return [other for other in members if book.product(layer, member, other) == 0]


def _led_back(book, start, entries):
    """Returns a list of what is kept if a run is undone, or an empty list if it cannot be.

    The run has begun at a start state and ended where these entries are kept.
    """
    found = list(entries)
    for at, entry in enumerate(entries):
        word = book.word_at(at + 1)
        if word == "cell":
            found[at] = start[at]
        elif word == "note":
            undoing = _undoing(book, at + 1, entry)
            if not undoing:
                return []
            found[at] = undoing[0]
    return [tuple(found)]


def _ways_back(book, form):
    """Returns a list of a dict that tells how each end is undone, or an empty list.

    A key of the dict has a text, the cells that are kept with it, and the settings. The
    worth is what is kept if the run is undone.
    """
    backs = {}
    for start, body in zip(starts(book), form):
        settings = _entries_of(book, "setting", start)
        for end in ends_of(body):
            led = _led_back(book, start, end[2]) if end[0] == "done" else []
            if not led:
                return []
            key = (end[1], _entries_of(book, "cell", end[2]), settings)
            # Notes that differ are undone by members that differ, and so they differ here.
            if backs.setdefault(key, led[0]) != led[0]:
                return []
    return [backs]


def _undone_text(web, backs, text):
    """Returns the node that undoes a program that has returned a text."""
    book = web.book
    form = []
    for state in starts(book):
        key = (text, _entries_of(book, "cell", state), _entries_of(book, "setting", state))
        entries = backs.get(key, kept(book, state, book.size + 1))
        form.append(only(("done", "0", entries)))
    return term_of(web, tuple(form))


def undone(web, root):
    """Returns the pairs of a text and a node that undo a program, or None."""
    for backs in _ways_back(web.book, form_of(web, root)):
        texts = sorted({text for text, _, _ in backs})
        return tuple([(text, _undone_text(web, backs, text)) for text in texts])
    return None


def redone(web, root, pairs):
    """Returns the node of a program in which results are replaced by the nodes of pairs."""
    return grafted(web, root, dict(pairs))
