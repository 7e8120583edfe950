"""Papers: certificates of single axiom steps."""

from besideandthrough.errors import PaperError
from besideandthrough.steps import is_step


class Paper:
    """A web and at least one row; the sides are those of the last row."""

    def __init__(self, web, rows):
        if not rows:
            raise PaperError(0)
        self.web = web
        self.rows = tuple(rows)
        self.left = self.rows[-1][1]
        self.right = self.rows[-1][2]

    def __iter__(self):
        return iter(self.rows)


# The rules below return True if a row holds whose refs are numbers of earlier rows;
# `sides` are the sides of these rows, as pairs.


def _like(web, row, sides):
    return not sides and row[1] == row[2]


def _turn(web, row, sides):
    return sides == [(row[2], row[1])]


def _join(web, row, sides):
    if len(sides) != 2:
        return False
    first, second = sides
    return first[0] == row[1] and first[1] == second[0] and second[1] == row[2]


def _within(web, row, sides):
    a, b = row[1:3]
    if web.deed_of(a) != web.deed_of(b):
        return False
    return sides == list(zip(web.children_of(a), web.children_of(b)))


RULES = {"like": _like, "turn": _turn, "join": _join, "within": _within}


def _holds(paper, at):
    """Returns True if the row at an index holds, otherwise False."""
    row = paper.rows[at]
    word, a, b, refs = row
    many = len(paper.web.nodes)
    if not (0 <= a < many and 0 <= b < many):
        return False
    if refs and not (1 <= min(refs) and max(refs) <= at):
        return False
    if word not in RULES:
        return not refs and is_step(paper.web, word, a, b)
    rule = RULES[word]
    return rule(paper.web, row, [paper.rows[ref - 1][1:3] for ref in refs])


def judge(paper):
    """Returns the pair of the sides of a paper, or refuses the first row that does not hold."""
    for at in range(len(paper.rows)):
        if not _holds(paper, at):
            raise PaperError(at + 1)
    return paper.left, paper.right


def turned(paper):
    """Returns the turn of a paper."""
    row = ("turn", paper.right, paper.left, (len(paper.rows),))
    return Paper(paper.web, [*paper.rows, row])


def _renumbered(row, numbers):
    """Returns a row whose refs have become the numbers that a dict tells."""
    word, a, b, refs = row
    return word, a, b, tuple([numbers[ref] for ref in refs])


def _moved(row, many):
    """Returns a row whose refs are increased."""
    word, a, b, refs = row
    return word, a, b, tuple([ref + many for ref in refs])


def followed(paper, *others):
    """Returns the paper that is made of papers that follow each other."""
    rows = list(paper.rows)
    right = paper.right
    for other in others:
        if other.web != paper.web or other.left != right:
            raise PaperError(0)
        many = len(rows)
        rows.extend([_moved(row, many) for row in other.rows])
        right = other.right
        rows.append(("join", paper.left, right, (many, many + len(other.rows))))
    return Paper(paper.web, rows)


def rows_for(rows, number):
    """Returns the rows that the row with a number needs, and itself, numbered anew."""
    needed = {number: True}
    for at in range(number, 0, -1):
        if at in needed:
            needed.update({ref: True for ref in rows[at - 1][3]})
    order = sorted(needed)
    numbers = {old: at + 1 for at, old in enumerate(order)}
    return [_renumbered(rows[old - 1], numbers) for old in order]


def cut(paper, *, row=0):
    """Returns the paper that is cut at a row; the row 0 stands for the last row."""
    judge(paper)
    if not 0 <= row <= len(paper.rows):
        raise PaperError(row)
    return Paper(paper.web, rows_for(paper.rows, row if row > 0 else len(paper.rows)))
