"""Books: a kernel and the layers that are put on it."""

from besideandthrough.errors import BookError, TextError
from besideandthrough.tokens import is_digits, is_name, number_in, tokens_of

# For each kernel, how many choosing and how many drawing pieces there are.
KERNELS = {
    "none": (0, 0),
    "choose": (1, 0),
    "draw": (0, 1),
    "spread": (1, 1),
    "twochoose": (2, 0),
    "twodraw": (0, 2),
    "mixed": (1, 1),
}
LAYER_WORDS = ("cell", "setting", "note", "fail", "outside")
MOST_LAYERS = 5
MOST_STATES = 12


def choices(kernel):
    """Returns the number of choosing pieces of a kernel."""
    return KERNELS[kernel][0]


def draws(kernel):
    """Returns the number of drawing pieces of a kernel."""
    return KERNELS[kernel][1]


def _is_associative(table):
    """Returns True if the product that a table tells is associative."""
    members = range(len(table))
    for a in members:
        for b in members:
            for c in members:
                if table[table[a][b]][c] != table[a][table[b][c]]:
                    return False
    return True


def _is_square(table):
    """Returns True if a table has one row of members for each member."""
    many = len(table)
    for row in table:
        if len(row) != many or min(row) < 0 or max(row) >= many:
            return False
    return True


def _is_monoid(table):
    """Returns True if a table is that of a monoid of two to six members."""
    if not 2 <= len(table) <= 6 or not _is_square(table):
        return False
    for member in range(len(table)):
        if table[0][member] != member or table[member][0] != member:
            return False
    return _is_associative(table)


def _is_layer(layer):
    """Returns True if a tuple is a layer of a book, apart from the other layers."""
    word, name, extent = layer
    if not is_name(name) or word not in LAYER_WORDS:
        return False
    if word == "note":
        return _is_monoid(extent)
    if word == "outside":
        return 1 <= len(extent) <= 2 and 1 <= min(extent) and max(extent) <= 3
    if word == "fail":
        return 1 <= extent <= 3
    return 2 <= extent <= 3


def _states_of(layers):
    """Returns the product of the sizes of all cells and settings."""
    many = 1
    for word, _, extent in layers:
        if word in ("cell", "setting"):
            many = many * extent
    return many


class Book:
    """A kernel and its layers, which are numbered from 1."""

    def __init__(self, kernel, layers):
        if kernel not in KERNELS or len(layers) > MOST_LAYERS:
            raise BookError(0)
        self.kernel = kernel
        self.layers = tuple(layers)
        self.size = len(self.layers)
        self.numbers = {}
        for at, layer in enumerate(self.layers):
            if not _is_layer(layer) or layer[1] in self.numbers:
                raise BookError(at + 1)
            self.numbers[layer[1]] = at + 1
        if _states_of(self.layers) > MOST_STATES:
            raise BookError(0)

    def word_at(self, layer):
        """Returns the first part of a layer's tuple."""
        return self.layers[layer - 1][0]

    def count_at(self, layer):
        """Returns how many values, members, kinds or deeds a layer has."""
        word, _, extent = self.layers[layer - 1]
        if word in ("note", "outside"):
            return len(extent)
        return extent

    def ways_at(self, layer, deed):
        """Returns the number of answers of an outside deed."""
        return self.layers[layer - 1][2][deed]

    def product(self, layer, first, second):
        """Returns the product of two members of a note layer."""
        return self.layers[layer - 1][2][first][second]

    def number_of(self, name):
        """Returns the number of the layer with a name, or 0 if there is none."""
        return self.numbers.get(name, 0)


def like_books(one, other):
    """Returns True if two books have equal kernels and layers, otherwise False."""
    return one.kernel == other.kernel and one.layers == other.layers


def _is_extent(word, token):
    """Returns True if a token can stand behind the name in the line of a layer."""
    if word == "note":
        return is_digits(token)
    return number_in(token) >= 0


def _kernel_fault(tokens):
    """Returns the number of the token that breaks the line of a kernel, or 0."""
    if not tokens or tokens[0] != "kernel":
        return 1
    if len(tokens) < 2 or tokens[1] not in KERNELS:
        return 2
    return 3 if len(tokens) > 2 else 0


def _layer_fault(tokens):
    """Returns the number of the token that breaks the line of a layer, or 0."""
    if not tokens or tokens[0] not in LAYER_WORDS:
        return 1
    if len(tokens) < 2 or not is_name(tokens[1]):
        return 2
    for at in range(2, len(tokens)):
        if not _is_extent(tokens[0], tokens[at]):
            return at + 1
    if len(tokens) < 3:
        return 3
    if tokens[0] in ("cell", "setting", "fail") and len(tokens) > 3:
        return 4
    return 0


def _layer_of(tokens):
    """Returns the layer that the tokens of a line in its form write."""
    word, name, *extents = tokens
    if word == "note":
        return word, name, tuple([tuple(map(int, row)) for row in extents])
    if word == "outside":
        return word, name, tuple(map(int, extents))
    return word, name, int(extents[0])


def read_book(text):
    """Returns the book that a text writes."""
    rows = []
    for at, line in enumerate(text.split("\n")):
        tokens = tokens_of(line, at + 1)
        fault = _layer_fault(tokens) if at else _kernel_fault(tokens)
        if fault:
            raise TextError(at + 1, fault)
        rows.append(tokens)
    return Book(rows[0][1], [_layer_of(tokens) for tokens in rows[1:]])


def _extent_text(word, extent):
    """Returns the text of the third part of a layer's tuple."""
    if word == "note":
        return " ".join(["".join(map(str, row)) for row in extent])
    if word == "outside":
        return " ".join(map(str, extent))
    return str(extent)


def write_book(book):
    """Returns the text of a book."""
    lines = [f"kernel {book.kernel}"]
    for word, name, extent in book.layers:
        lines.append(f"{word} {name} {_extent_text(word, extent)}")
    return "\n".join(lines)
