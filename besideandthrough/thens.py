"""Going on: forms whose results or failings go on as other forms."""

from besideandthrough.acting import body_in
from besideandthrough.bodies import carried, ends_of, only
from besideandthrough.states import starts, starts_below


def _state_behind(book, entries, state):
    """Returns the state of a run from a state that ends where these entries are kept."""
    found = list(state)
    for at, entry in enumerate(entries):
        if book.word_at(at + 1) != "setting":
            found[at] = entry
    return tuple(found)


# An image is a function that returns the body of an end, other than an ask, in a run
# from a state.


def _asked_on(book, end, state, image):
    """Returns an ask whose runs go on."""
    word, layer, outside, entries, children = end
    below = starts_below(book, layer, state)
    parts = []
    for part in children:
        parts.append(tuple([_gone_on(book, body, each, image) for body, each in zip(part, below)]))
    return word, layer, outside, entries, tuple(parts)


def _gone_on(book, body, state, image):
    """Returns the body whose runs from a state go on."""
    images = []
    for end in ends_of(body):
        if end[0] == "ask":
            images.append(only(_asked_on(book, end, state, image)))
        else:
            images.append(image(end, state))
    return carried(book.kernel, body, images)


def _form_gone_on(book, form, image):
    """Returns the form whose runs go on."""
    return tuple([_gone_on(book, body, state, image) for body, state in zip(form, starts(book))])


def then(book, form, table):
    """Returns the form whose results go on as the forms of a table."""
    def image(end, state):
        if end[0] != "done" or end[1] not in table:
            return only(end)
        return body_in(book, table[end[1]], _state_behind(book, end[2], state))

    return _form_gone_on(book, form, image)


def rescue(book, form, layer, kind, other):
    """Returns the form whose failings of a kind of a layer go on as another form."""
    def image(end, state):
        if end[:3] != ("fail", layer, kind):
            return only(end)
        return body_in(book, other, _state_behind(book, end[3], state))

    return _form_gone_on(book, form, image)
