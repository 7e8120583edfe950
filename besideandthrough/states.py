"""States: one number for each layer of a book."""


def has_values(book, layer):
    """Returns True if a layer is a cell or a setting, otherwise False."""
    return book.word_at(layer) in ("cell", "setting")


def values_at(book, layer):
    """Returns how many entries a start state may have at a layer."""
    return book.count_at(layer) if has_values(book, layer) else 1


def starts(book):
    """Returns the list of the start states, ascending."""
    return starts_below(book, book.size + 1, ())


def starts_below(book, layer, state):
    """Returns the list of the states below a layer, seen from a state, ascending."""
    found = [()]
    for number in range(1, layer):
        many = values_at(book, number)
        found = [(*row, entry) for row in found for entry in range(many)]
    return [row + state[layer - 1:] for row in found]


def place_below(book, layer, state):
    """Returns where the state with the same cells and settings stands below a layer."""
    place = 0
    for number in range(1, layer):
        if has_values(book, number):
            place = place * book.count_at(number) + state[number - 1]
    return place


def kept(book, state, layer):
    """Returns what is kept of a state at a layer."""
    entries = list(state[:layer - 1])
    for number in range(1, layer):
        if book.word_at(number) == "setting":
            entries[number - 1] = 0
    return tuple(entries)


def changed(state, layer, entry):
    """Returns the state with another entry for one layer."""
    return (*state[:layer - 1], entry, *state[layer:])


def noted(book, state, layer, member):
    """Returns the state whose entry for a note layer is multiplied by a member."""
    entry = book.product(layer, state[layer - 1], member)
    return changed(state, layer, entry)
