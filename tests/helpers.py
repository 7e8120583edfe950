"""What several tests use."""

from besideandthrough.books import Book
from besideandthrough.errors import TextError

KERNELS = ("none", "choose", "draw", "spread", "twochoose", "twodraw", "mixed")

SIGNS = ((0, 1), (1, 0))
# The monoid of three members in which each member other than 0 absorbs from the left.
LEFT = ((0, 1, 2), (1, 1, 1), (2, 2, 2))

CELL = ("cell", "c", 2)
SETTING = ("setting", "s", 3)
NOTE = ("note", "n", LEFT)
FAIL = ("fail", "f", 2)
OUTSIDE = ("outside", "o", (3, 1))

# All five sorts of layers, with the outside in the middle.
WIDE = (SETTING, CELL, NOTE, OUTSIDE, FAIL)


def wide_book(kernel="spread"):
    """Returns a book with a layer of each sort."""
    return Book(kernel, WIDE)


def fault(call, *given):
    """Returns the line and the token of the TextError that a call raises, or None."""
    try:
        call(*given)
    except TextError as error:
        return error.line, error.token
    return None


def joined_tokens(tokens):
    """Writes tokens as a line that keeps point [3]."""
    line = ""
    for token in tokens:
        if line and line[-1] != "(" and token != ")":
            line += " "
        line += token
    return line


def token_changes(tokens, others):
    """All lists of tokens with one token changed, left out, doubled or put in."""
    for at in range(len(tokens)):
        yield tokens[:at] + tokens[at + 1:]
        yield tokens[:at] + [tokens[at]] + tokens[at:]
        for other in others:
            yield tokens[:at] + [other] + tokens[at + 1:]
    for at in range(len(tokens) + 1):
        for other in others:
            yield tokens[:at] + [other] + tokens[at:]


def text_changes(text, signs=" \n()"):
    """All texts with one character put in or left out."""
    for at in range(len(text) + 1):
        for sign in signs:
            yield text[:at] + sign + text[at:]
    for at in range(len(text)):
        yield text[:at] + text[at + 1:]


def line_changes(text):
    """All texts with one line left out, doubled or put in, or two lines exchanged."""
    lines = text.split("\n")
    for at in range(len(lines)):
        yield "\n".join(lines[:at] + lines[at + 1:])
        yield "\n".join(lines[:at] + [lines[at]] + lines[at:])
        for other in range(at):
            changed = list(lines)
            changed[at], changed[other] = lines[other], lines[at]
            yield "\n".join(changed)
    for at in range(len(lines) + 1):
        yield "\n".join(lines[:at] + [""] + lines[at:])


def node_of(web, text):
    """The node of the last line of a text like that of a web, in any order of the lines."""
    numbers = []
    for line in text.split("\n"):
        head, _, tail = line.partition(" : ")
        word, _, rest = head.partition(" ")
        deed = (word, rest) if word == "ret" else (word, *map(int, rest.split(" ")))
        numbers.append(web.make(deed, [numbers[int(at)] for at in tail.split()]))
    return numbers[-1]


def remade(web, source):
    """Makes all nodes of a web in another one, and returns their numbers there in order."""
    numbers = []
    for deed, children in source:
        numbers.append(web.make(deed, [numbers[child] for child in children]))
    return numbers
