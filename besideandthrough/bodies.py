"""Bodies: the share points between which choices lead."""

from besideandthrough.errors import TooLarge
from besideandthrough.hulls import nearest
from besideandthrough.points import blend, distinct, listed_ends, mixture


def only(end):
    """Returns the body of an end."""
    return ((1, ((end, 1),)),)


def _is_corner(points, at):
    """Returns True if a share point is not a mixture of the others, otherwise False."""
    others = [*points[:at], *points[at + 1:]]
    return not others or nearest(points[at], others)[0] == "bar"


def settled(kernel, points, *, most=8):
    """Returns the body that results from settling share points."""
    found = distinct(points)
    if kernel != "spread":
        return tuple(found)
    if len(found) > most:
        raise TooLarge("too many share points to settle")
    return tuple([found[at] for at in range(len(found)) if _is_corner(found, at)])


def either(kernel, one, other):
    """Returns either of two bodies."""
    return settled(kernel, [*one, *other])


def drawn(kernel, a, b, one, other):
    """Returns the draw of two bodies with the shares a / b and the rest."""
    if kernel == "mixed":
        return either(kernel, one, other)
    return settled(kernel, [blend(a, b, first, second) for first in one for second in other])


def body_above(kernel, deed, one, other):
    """Returns the body of a choose or a draw whose children have two bodies."""
    if deed[0] == "choose":
        return either(kernel, one, other)
    return drawn(kernel, deed[2], deed[3], one, other)


def ends_of(body):
    """Returns the list of the ends of a body, ascending, each once."""
    return listed_ends(body)


def ends_within(body):
    """Yields the ends of a body, and behind each ask those within its children."""
    for end in ends_of(body):
        yield end
        if end[0] == "ask":
            for part in end[4]:
                for child in part:
                    yield from ends_within(child)


def _place_of(ends, end):
    """Returns the index of an end in a list of ascending ends that has it."""
    low, high = 0, len(ends) - 1
    while low < high:
        middle = (low + high) // 2
        if ends[middle] < end:
            low = middle + 1
        else:
            high = middle
    return low


def _combinations(images):
    """Returns the list of all rows that take one share point from each image."""
    rows = [[]]
    for image in images:
        if len(image) == 1:
            for row in rows:
                row.append(image[0])
        else:
            rows = [[*row, point] for row in rows for point in image]
    return rows


def carried(kernel, body, images):
    """Returns the body in which each end is replaced by its image."""
    ends = ends_of(body)
    found = []
    for _, pairs in body:
        chosen = [images[_place_of(ends, end)] for end, _ in pairs]
        weights = [number for _, number in pairs]
        found.extend([mixture(weights, row) for row in _combinations(chosen)])
    return settled(kernel, found)
