"""Parting: worlds that tell bodies apart."""

from besideandthrough.catalog import Catalog
from besideandthrough.forms import form_of
from besideandthrough.hulls import nearest
from besideandthrough.shares import greater, lowest
from besideandthrough.states import starts
from besideandthrough.valuing import body_worth
from besideandthrough.worlds import World

# Scales that are tried first, since one of them may part many bodies at once: the number
# of an end is the remainder of a multiple of its place. Each of these divisors is a prime.
TRIED = ((1, 1000003), (1000002, 1000003), (7919, 10007), (104729, 1009), (31, 101), (57, 103))


# A scale is a list with one integer for each end of a catalog.


def _value_on(scale, body):
    """Returns the worth of a body of a catalog on a scale."""
    found = []
    for den, pairs in body:
        found.append(lowest(sum([number * scale[end] for end, number in pairs]), den))
    best = found[0]
    for value in found[1:]:
        best = greater(best, value)
    return best


def _bar_between(kernel, one, other):
    """Returns the pairs of a bar between a point of one body and another body, or ()."""
    for point in one:
        if point not in other:
            if kernel in ("choose", "twochoose", "mixed"):
                return ((point[1][0][0], 1),)
            answer = nearest(point, other)
            if answer[0] == "bar":
                return answer[1]
    return ()


def _scale_between(kernel, many, one, other):
    """Returns a scale on which two different bodies differ."""
    scale = [0] * many
    for end, number in _bar_between(kernel, one, other) or _bar_between(kernel, other, one):
        scale[end] = number
    return scale


def _classes_on(scale, bodies, classes):
    """Returns the classes of bodies, as numbers, into which a scale parts given ones."""
    numbers = {}
    found = []
    for body, before in zip(bodies, classes):
        mark = (before, _value_on(scale, body))
        found.append(numbers.setdefault(mark, len(numbers)))
    return found


def _first_alike(classes):
    """Returns a list of the places of the first two in one class; it is empty if none are."""
    places = {}
    for at, number in enumerate(classes):
        if number in places:
            return [places[number], at]
        places[number] = at
    return []


def _parting_scales(kernel, catalog):
    """Returns scales on which no two bodies of a catalog agree, each parting a class."""
    bodies = catalog.bodies
    many = len(catalog.ends)
    classes = [0] * len(bodies)
    waiting = [[(at + 1) * times % most for at in range(many)] for times, most in reversed(TRIED)]
    scales = []
    while alike := _first_alike(classes):
        if waiting:
            scale = waiting.pop()
        else:
            scale = _scale_between(kernel, many, bodies[alike[0]], bodies[alike[1]])
        parted_now = _classes_on(scale, bodies, classes)
        if max(parted_now) > max(classes):
            scales.append(scale)
            classes = parted_now
    return scales


def _world_on(book, catalog, scales):
    """Returns the world in which the ends of a catalog have these numbers."""
    worths = []
    rows = []
    for body in catalog.bodies:
        worths.append(tuple([_value_on(scale, body) for scale in scales]))
    for at, end in enumerate(catalog.ends):
        numbers = tuple([scale[at] for scale in scales])
        if any(numbers):
            rows.append((_key_of(end, worths), numbers))
    return World(book, max(1, len(scales)), rows)


def _key_of(end, worths):
    """Returns the key of an end of a catalog."""
    if end[0] != "ask":
        return end
    parts = [tuple([worths[number] for number in part]) for part in end[4]]
    return (*end[:4], tuple(parts))


def _world_for(book, forms):
    """Returns a world that tells all bodies of forms apart."""
    catalog = Catalog()
    for form in forms:
        for body in form:
            catalog.number_of_body(body)
    return _world_on(book, catalog, _parting_scales(book.kernel, catalog))


def parting_world(web, *roots):
    """Returns a world that tells all bodies of nodes apart."""
    return _world_for(web.book, [form_of(web, root) for root in roots])


def parted(web, a, b):
    """Returns a world, a start state and a scale that part two nodes, or None."""
    one, other = form_of(web, a), form_of(web, b)
    if one == other:
        return None
    world = _world_for(web.book, [one, other])
    for start, first, second in zip(starts(web.book), one, other):
        if first != second:
            worths = list(zip(body_worth(world, first), body_worth(world, second)))
            return world, start, [left != right for left, right in worths].index(True)
    return None
