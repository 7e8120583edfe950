"""Plays: the world of one run."""

from besideandthrough.states import changed, has_values, kept, noted


def end_at(book, state, deed):
    """Returns the end of a run that ends at a state with a ret or a fail."""
    if deed[0] == "ret":
        return "done", deed[1], kept(book, state, book.size + 1)
    return "fail", deed[1], deed[2], kept(book, state, deed[1])


def _entries_beneath(book, layer, rest):
    """Returns the tuple of the new entries that a number gives beneath a layer."""
    entries = []
    for number in range(1, layer):
        if has_values(book, number):
            size = book.count_at(number)
            entries.append(rest % size)
            rest = rest // size
        else:
            entries.append(0)
    return tuple(entries)


def _asked(book, state, deed, number):
    """Returns what an ask that takes a number adds to the trail."""
    _, layer, outside = deed
    answers = book.ways_at(layer, outside)
    entries = _entries_beneath(book, layer, number // answers)
    return layer, outside, kept(book, state, layer), number % answers, entries


def _way_on(state, deed, number):
    """Returns the way that a deed other than ask leads to."""
    word = deed[0]
    if word == "choose":
        return number % 2
    if word == "draw":
        return 0 if number % deed[3] < deed[2] else 1
    if word in ("get", "look"):
        return state[deed[1] - 1]
    return 0


def _state_after(book, state, deed):
    """Returns the state behind a deed other than ask."""
    if deed[0] == "put":
        return changed(state, deed[1], deed[2])
    if deed[0] == "note":
        return noted(book, state, deed[1], deed[2])
    return state


def takes_number(deed):
    """Returns True if a deed takes a number of the script, otherwise False."""
    return deed[0] in ("choose", "draw", "ask")


def step_of(book, state, deed, number):
    """Returns the way of a deed, the next state, and a tuple of what the trail gets."""
    if deed[0] == "ask":
        told = _asked(book, state, deed, number)
        return told[3], told[4] + state[deed[1] - 1:], (told,)
    return _way_on(state, deed, number), _state_after(book, state, deed), ()


class Play:
    """The world of one run: a state, a script, and what has been done so far."""

    def __init__(self, book, start, script):
        self.book = book
        self.state = tuple(start)
        self.script = tuple(script)
        self.taken = 0
        self.deeds = 0
        self.trail = []

    def answer(self, deed):
        """Does a deed other than ret and fail, and returns the number of the way."""
        number = self._number() if takes_number(deed) else 0
        way, self.state, told = step_of(self.book, self.state, deed, number)
        self.trail.extend(told)
        self.deeds += 1
        return way

    def _number(self):
        """Takes the next number of the script, or 0 if none is left."""
        self.taken += 1
        if self.taken <= len(self.script):
            return self.script[self.taken - 1]
        return 0

    def restore(self, layer, state):
        """Sets cells and notes above a layer back to their entries in a state."""
        for number in range(layer + 1, self.book.size + 1):
            if self.book.word_at(number) in ("cell", "note"):
                self.state = changed(self.state, number, state[number - 1])

    def outcome(self, deed):
        """Returns the outcome of a run that ends with a ret or a fail."""
        return tuple(self.trail), end_at(self.book, self.state, deed)
