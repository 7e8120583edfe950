"""The texts of papers."""

from besideandthrough.errors import PaperError, WebError
from besideandthrough.lines import Line
from besideandthrough.papers import RULES, Paper
from besideandthrough.steps import AXIOMS
from besideandthrough.webs import Web, ordered
from besideandthrough.webtexts import MOST_DIGITS, made_nodes, node_in, node_line


def _fresh_part(web, root, listed):
    """Returns the part under a node, in its order, without the nodes that are listed.

    Where a node has been listed, its whole part has been listed, too.
    """
    if root in listed:
        return []
    return ordered(root, lambda at: [child for child in web.children_of(at) if child not in listed])


def nodes_of(paper):
    """Yields the nodes that the text of a paper lists, in order."""
    listed = {}
    for _, a, b, _ in paper.rows:
        for side in (a, b):
            fresh = _fresh_part(paper.web, side, listed)
            listed.update({node: True for node in fresh})
            yield from fresh


def _is_row_word(word):
    return word in RULES or word in AXIOMS


def _refuse_unwritable(paper):
    """Raises PaperError for the first row that cannot be written."""
    many = len(paper.web.nodes)
    for at, (word, a, b, _) in enumerate(paper.rows):
        if not _is_row_word(word) or not (0 <= a < many and 0 <= b < many):
            raise PaperError(at + 1)


def _row_line(row, places):
    """Returns the line of a row; places tells the line index of each node."""
    word, a, b, refs = row
    words = [word, str(places[a]), str(places[b])]
    if refs:
        words.append(":")
        words.extend([str(ref) for ref in refs])
    return " ".join(words)


def write_paper(paper):
    """Returns the text of a paper."""
    _refuse_unwritable(paper)
    places = {}
    lines = []
    for node in nodes_of(paper):
        places[node] = len(lines)
        lines.append(node_line(paper.web, node, places))
    for row in paper.rows:
        lines.append(_row_line(row, places))
    return "\n".join(lines)


def _row_in(line, many):
    """Takes the whole line of a row behind as many lines of nodes."""
    word = line.take(_is_row_word(line.here()))
    a = line.below(MOST_DIGITS, many)
    b = line.below(MOST_DIGITS, many)
    refs = []
    if line.here():
        line.mark(":")
        refs.append(line.whole(MOST_DIGITS))
        while line.here():
            refs.append(line.whole(MOST_DIGITS))
    return word, a, b, tuple(refs)


def _lines_in(text):
    """Returns the nodes and the rows that the lines of a text write."""
    nodes, rows = [], []
    for index, row in enumerate(text.split("\n")):
        line = Line(row, index + 1)
        if _is_row_word(line.here()):
            rows.append(_row_in(line, len(nodes)))
        else:
            line.need(not rows)
            nodes.append(node_in(line, index))
    return nodes, rows


def read_paper(book, text):
    """Returns the paper that a text writes."""
    nodes, rows = _lines_in(text)
    web = Web(book)
    numbers = made_nodes(web, nodes)
    paper = Paper(web, [(word, numbers[a], numbers[b], refs) for word, a, b, refs in rows])
    if write_paper(paper) != text:
        raise WebError("the paper has another text")
    return paper
