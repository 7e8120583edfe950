"""Verdicts: whether two nodes are the same in every world, and what shows it."""

from besideandthrough.errors import PaperError
from besideandthrough.leading import paper_between
from besideandthrough.papers import judge
from besideandthrough.parting import parted
from besideandthrough.valuing import worth
from besideandthrough.webtexts import write_web


def verdict(web, one, other):
    """Returns the verdict about two nodes."""
    paper = paper_between(web, one, other)
    if paper is not None:
        return "same", paper
    return ("parted", *parted(web, one, other))


def _paper_stands(web, one, other, paper):
    """Returns True if the judge takes a paper about two nodes, otherwise False."""
    try:
        left, right = judge(paper)
    except PaperError:
        return False
    if write_web(paper.web, left) != write_web(web, one):
        return False
    return write_web(paper.web, right) == write_web(web, other)


def stands(web, one, other, told):
    """Returns True if a verdict that is told about two nodes stands, otherwise False."""
    if told[0] == "same":
        return _paper_stands(web, one, other, told[1])
    _, world, start, scale = told
    return worth(world, web, one, start)[scale] != worth(world, web, other, start)[scale]
