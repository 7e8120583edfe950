"""Worlds: numbers for the ends of runs."""

from math import gcd

from besideandthrough.errors import WorldError
from besideandthrough.lines import Line
from besideandthrough.states import starts_below
from besideandthrough.tokens import whole_in
from besideandthrough.values import is_value_text, last_value_in, value_text

# For each word of a key, how many parts the key has.
LENGTHS = {"done": 3, "fail": 4, "ask": 5}
# For each word of a key that names a layer, the word of the layer.
LAYERS = {"fail": "fail", "ask": "outside"}
MOST_DIGITS = 4000


def _entries_at(book, layer):
    """Returns how many entries can be kept of a layer.

    A setting has several values, but 0 is kept in place of each of them.
    """
    if book.word_at(layer) in ("cell", "note"):
        return book.count_at(layer)
    return 1


def _can_be_kept(book, layer, kept):
    """Returns True if a tuple can be kept at a layer, otherwise False."""
    if len(kept) != layer - 1:
        return False
    for at, entry in enumerate(kept):
        if not 0 <= entry < _entries_at(book, at + 1):
            return False
    return True


def _is_layer_for(book, word, layer):
    """Returns True if a key with a word can name a layer, otherwise False."""
    return 1 <= layer <= book.size and book.word_at(layer) == LAYERS[word]


def _states_at(book, layer):
    """Returns the number of the states below a layer."""
    return len(starts_below(book, layer, (0,) * book.size))


def _is_fraction(fraction):
    return fraction[1] >= 1 and gcd(fraction[0], fraction[1]) == 1


def _is_worth(scales, worth):
    return len(worth) == scales and all([_is_fraction(fraction) for fraction in worth])


def _are_children(book, scales, key):
    """Returns True if the children of an ask key fit the deed that it asks."""
    _, layer, outside, _, children = key
    if len(children) != book.ways_at(layer, outside):
        return False
    many = _states_at(book, layer)
    for worths in children:
        if len(worths) != many or not all([_is_worth(scales, worth) for worth in worths]):
            return False
    return True


def _is_key(book, scales, key):
    """Returns True if a tuple is a key of a book with a number of scales."""
    word = key[0]
    if len(key) != LENGTHS.get(word, 0):
        return False
    if word == "done":
        return is_value_text(key[1]) and _can_be_kept(book, book.size + 1, key[2])
    if not _is_layer_for(book, word, key[1]) or not 0 <= key[2] < book.count_at(key[1]):
        return False
    if not _can_be_kept(book, key[1], key[3]):
        return False
    return word == "fail" or _are_children(book, scales, key)


class World:
    """Rows of keys and their numbers on one scale or on several."""

    def __init__(self, book, scales, rows=()):
        if scales < 1:
            raise WorldError(0)
        self.book = book
        self.scales = scales
        self.rows = tuple(rows)
        self.numbers = {}
        for at, (key, numbers) in enumerate(self.rows):
            if not _is_key(book, scales, key) or len(numbers) != scales or key in self.numbers:
                raise WorldError(at + 1)
            self.numbers[key] = numbers

    def __iter__(self):
        return iter(self.rows)

    def row_of(self, key):
        """Returns the numbers of a key."""
        if key in self.numbers:
            return self.numbers[key]
        return (0,) * self.scales


def _fraction_text(fraction):
    num, den = fraction
    return str(num) if den == 1 else f"{num}/{den}"


def _row_line(row):
    """Returns the line of a row."""
    key, numbers = row
    word = key[0]
    kept = key[2] if word == "done" else key[3]
    parts = [word] if word == "done" else [word, str(key[1]), str(key[2])]
    parts.extend([str(entry) for entry in kept])
    parts.append(":")
    parts.extend([str(number) for number in numbers])
    if word == "done":
        parts.extend([":", key[1]])
    if word == "ask":
        parts.append(":")
        fractions = [each for worths in key[4] for worth in worths for each in worth]
        parts.extend([_fraction_text(fraction) for fraction in fractions])
    return " ".join(parts)


def write_world(world):
    """Returns the text of a world."""
    return "\n".join([f"world {world.scales}", *[_row_line(row) for row in world.rows]])


def _integer_in(token):
    """Returns a list of the integer that a token writes, or an empty list."""
    negative = token[:1] == "-"
    number = whole_in(token[1:] if negative else token, MOST_DIGITS)
    if number < 0 or negative and number == 0:
        return []
    return [-number if negative else number]


def _fraction_in(token):
    """Returns a list of the fraction that a token writes, or an empty list."""
    left, mark, right = token.partition("/")
    num = _integer_in(left)
    den = whole_in(right, MOST_DIGITS) if mark else 1
    if not num or mark and den < 2 or gcd(num[0], den) != 1:
        return []
    return [(num[0], den)]


def _taken(line, found):
    """Takes a token for which something has been found in a list."""
    line.take(len(found) > 0)
    return found[0]


def _kept_in(line, book, layer):
    """Takes what is kept at a layer."""
    return tuple([line.below(MOST_DIGITS, _entries_at(book, at)) for at in range(1, layer)])


def _numbers_in(line, scales):
    """Takes the integers of a row."""
    line.mark(":")
    numbers = []
    for _ in range(scales):
        numbers.append(_taken(line, _integer_in(line.here())))
    return tuple(numbers)


def _worth_in(line, scales):
    worth = []
    for _ in range(scales):
        worth.append(_taken(line, _fraction_in(line.here())))
    return tuple(worth)


def _children_in(line, book, scales, deed):
    """Takes the children of an ask key."""
    _, layer, outside = deed
    states = range(_states_at(book, layer))
    children = []
    for _ in range(book.ways_at(layer, outside)):
        children.append(tuple([_worth_in(line, scales) for _ in states]))
    return tuple(children)


def _row_in(line, book, scales):
    """Takes the whole line of a row."""
    word = line.take(line.here() in LENGTHS)
    if word == "done":
        kept = _kept_in(line, book, book.size + 1)
        numbers = _numbers_in(line, scales)
        line.mark(":")
        return ("done", value_text(last_value_in(line)), kept), numbers
    layer = whole_in(line.here(), MOST_DIGITS)
    line.take(_is_layer_for(book, word, layer))
    deed = (word, layer, line.below(MOST_DIGITS, book.count_at(layer)))
    kept = _kept_in(line, book, layer)
    numbers = _numbers_in(line, scales)
    key = (*deed, kept)
    if word == "ask":
        line.mark(":")
        key = (*key, _children_in(line, book, scales, deed))
    line.finish()
    return key, numbers


def _scales_in(line):
    """Takes the whole first line of a world."""
    line.mark("world")
    scales = whole_in(line.here(), MOST_DIGITS)
    line.take(scales >= 1)
    line.finish()
    return scales


def read_world(book, text):
    """Returns the world of a book that a text writes."""
    first, *lines = text.split("\n")
    scales = _scales_in(Line(first, 1))
    rows = []
    for at, line in enumerate(lines):
        rows.append(_row_in(Line(line, at + 2), book, scales))
    return World(book, scales, rows)
