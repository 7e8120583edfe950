"""Valuing: the worths of nodes, ends and bodies in a world."""

from besideandthrough.forms import asked_end, find_at
from besideandthrough.plays import end_at
from besideandthrough.shares import greater, lowest, mean


def _key_worth(world, key):
    """Returns the numbers of a key as fractions."""
    return tuple([(number, 1) for number in world.row_of(key)])


def _greatest(one, other):
    """Returns the greater one of two worths on each scale."""
    return tuple([greater(a, b) for a, b in zip(one, other)])


def _worth_over(world, deed, state, worths):
    """Returns the worth of a deed at a state from the list of the worths that it uses."""
    word = deed[0]
    if word in ("ret", "fail"):
        return _key_worth(world, end_at(world.book, state, deed))
    if word == "ask":
        return _key_worth(world, asked_end(world.book, deed, state, worths))
    if word == "choose" or word == "draw" and world.book.kernel == "mixed":
        return _greatest(worths[0], worths[1])
    if word == "draw":
        return tuple([mean(deed[2], deed[3], a, b) for a, b in zip(worths[0], worths[1])])
    return worths[0]


def worth(world, web, root, state):
    """Returns the worth of a node at a state."""
    return find_at(web, {}, (root, state),
                   lambda deed, at, worths: _worth_over(world, deed, at, worths))


def _end_worth(world, end):
    """Returns the tuple of the integers that an end is worth."""
    if end[0] != "ask":
        return world.row_of(end)
    parts = [tuple([body_worth(world, body) for body in part]) for part in end[4]]
    return world.row_of((*end[:4], tuple(parts)))


def _point_worth(world, point):
    """Returns the worth of a share point."""
    den, pairs = point
    totals = [0] * world.scales
    for end, number in pairs:
        worths = _end_worth(world, end)
        totals = [total + number * each for total, each in zip(totals, worths)]
    return tuple([lowest(total, den) for total in totals])


def body_worth(world, body):
    """Returns the worth of a body."""
    found = _point_worth(world, body[0])
    for point in body[1:]:
        found = _greatest(found, _point_worth(world, point))
    return found
