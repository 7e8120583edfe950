"""Bodies and forms by the words of points [58] to [68], written apart from the program.

A share point is a dict from ends to fractions here, and a body is a list of such dicts.
The children of an ask end are bodies as the document tells them.
"""

from fractions import Fraction
from itertools import combinations, product
from math import gcd, lcm


class TooMany(Exception):
    """More than eight different share points would have to be settled."""


def solution(rows):
    """The only solution of equations, whose last column is the right side, or None."""
    rows = [list(row) for row in rows]
    many = len(rows[0]) - 1
    for at in range(many):
        found = [k for k in range(at, len(rows)) if rows[k][at] != 0]
        if not found:
            return None
        rows[at], rows[found[0]] = rows[found[0]], rows[at]
        rows[at] = [number / rows[at][at] for number in rows[at]]
        for k in range(len(rows)):
            if k != at and rows[k][at] != 0:
                rows[k] = [a - rows[k][at] * b for a, b in zip(rows[k], rows[at])]
    if any(row[-1] != 0 for row in rows[many:]):
        return None
    return [row[-1] for row in rows[:many]]


def is_mixture(point, others):
    """Tries each row of others that can have only one mixture equal to the point."""
    ends = sorted({end for one in [point, *others] for end in one})
    for many in range(1, len(others) + 1):
        for chosen in combinations(others, many):
            rows = [[Fraction(one.get(end, 0)) for one in [*chosen, point]] for end in ends]
            rows.append([Fraction(1)] * (many + 1))
            weights = solution(rows)
            if weights is not None and min(weights) >= 0:
                return True
    return False


def settled(kernel, points, most=8):
    found = []
    for point in points:
        if point not in found:
            found.append(point)
    if kernel != "spread":
        return found
    if len(found) > most:
        raise TooMany
    return [point for point in found
            if not is_mixture(point, [other for other in found if other != point])]


def mixed(weights, points):
    found = {}
    for weight, point in zip(weights, points):
        for end, share in point.items():
            if weight:
                found[end] = found.get(end, 0) + Fraction(weight) / sum(weights) * share
    return found


def drawn(kernel, a, b, one, other):
    if kernel == "mixed":
        return settled(kernel, one + other)
    return settled(kernel, [mixed([a, b - a], [p, q]) for p in one for q in other])


def carried(kernel, body, image):
    """The carried body; image is a dict from ends to bodies."""
    found = []
    for point in body:
        ends = list(point)
        for taken in product(*[image[end] for end in ends]):
            found.append(mixed([point[end] for end in ends], taken))
    return settled(kernel, found)


def told(body):
    """A body as the document tells it."""
    points = []
    for point in body:
        den = lcm(*[share.denominator for share in point.values()])
        pairs = tuple((end, int(point[end] * den)) for end in sorted(point))
        assert gcd(*[number for _, number in pairs]) == 1
        points.append((den, pairs))
    return tuple(sorted(points))


def untold(body):
    return [{end: Fraction(number, den) for end, number in pairs} for den, pairs in body]


def kept(book, state, layer):
    return tuple(0 if book.layers[at][0] == "setting" else state[at] for at in range(layer - 1))


def below(book, layer, state):
    rows = []
    for word, _, extent in book.layers[:layer - 1]:
        rows.append(range(extent) if word in ("cell", "setting") else range(1))
    return [(*row, *state[layer - 1:]) for row in product(*rows)]


def body(web, node, state):
    """The body of a node at a state."""
    book = web.book
    deed = web.deed_of(node)
    children = web.children_of(node)
    word = deed[0]
    if word == "ret":
        return [{("done", deed[1], kept(book, state, book.size + 1)): Fraction(1)}]
    if word == "fail":
        return [{(*deed, kept(book, state, deed[1])): Fraction(1)}]
    if word in ("get", "look"):
        return body(web, children[state[deed[1] - 1]], state)
    if word in ("put", "note"):
        entries = list(state)
        entries[deed[1] - 1] = deed[2]
        if word == "note":
            entries[deed[1] - 1] = book.layers[deed[1] - 1][2][state[deed[1] - 1]][deed[2]]
        return body(web, children[0], tuple(entries))
    if word == "choose":
        return settled(book.kernel, body(web, children[0], state) + body(web, children[1], state))
    if word == "draw":
        return drawn(book.kernel, deed[2], deed[3], body(web, children[0], state),
                     body(web, children[1], state))
    parts = tuple(tuple(told(body(web, child, each)) for each in below(book, deed[1], state))
                  for child in children)
    return [{(*deed, kept(book, state, deed[1]), parts): Fraction(1)}]


def form(web, node):
    book = web.book
    return tuple(told(body(web, node, state)) for state in below(book, book.size + 1, ()))
