"""The text of the part of a web under a node."""

from besideandthrough.errors import WebError
from besideandthrough.lines import Line
from besideandthrough.values import last_value_in, value_text
from besideandthrough.webs import Web, reached

# For each word of a deed whose parts are numbers, how many numbers there are.
NUMBERS = {
    "fail": 2,
    "choose": 1,
    "draw": 3,
    "get": 1,
    "put": 2,
    "look": 1,
    "note": 2,
    "ask": 2,
}
MOST_DIGITS = 40


def node_line(web, node, places):
    """Returns the line of a node; places tells the line index of each child."""
    words = [str(part) for part in web.deed_of(node)]
    children = web.children_of(node)
    if children:
        words.append(":")
        words.extend([str(places[child]) for child in children])
    return " ".join(words)


def write_web(web, root):
    """Returns the text of the part under a node."""
    places = {}
    lines = []
    for node in reached(web, root):
        places[node] = len(lines)
        lines.append(node_line(web, node, places))
    return "\n".join(lines)


def node_in(line, index):
    """Takes the whole line of a node with this index: a deed and its children."""
    if line.here() == "ret":
        line.mark("ret")
        return ("ret", value_text(last_value_in(line))), ()
    word = line.take(line.here() in NUMBERS)
    deed = [word]
    for _ in range(NUMBERS[word]):
        deed.append(line.whole(MOST_DIGITS))
    children = []
    if word != "fail":
        line.mark(":")
        children.append(line.below(MOST_DIGITS, index))
        while line.here():
            children.append(line.below(MOST_DIGITS, index))
    line.finish()
    return tuple(deed), tuple(children)


def made_nodes(web, rows):
    """Makes the nodes of rows of deeds and indexes; returns the list of their numbers."""
    numbers = []
    for deed, children in rows:
        numbers.append(web.make(deed, [numbers[child] for child in children]))
    return numbers


def read_web(book, text):
    """Returns a pair of the web that a text writes and the number of its last node."""
    rows = []
    for index, row in enumerate(text.split("\n")):
        rows.append(node_in(Line(row, index + 1), index))
    web = Web(book)
    root = made_nodes(web, rows)[-1]
    if write_web(web, root) != text:
        raise WebError("the part under the last node has another text")
    return web, root
