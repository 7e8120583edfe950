"""Lifting: carrying parts of webs to books with more layers."""

from besideandthrough.errors import WebError
from besideandthrough.webs import LAYERS, reached

# For each kernel, the wider kernels.
WIDER = {
    "none": ("none", "choose", "draw", "spread", "twochoose", "twodraw", "mixed"),
    "choose": ("choose", "spread", "twochoose", "mixed"),
    "draw": ("draw", "spread", "twodraw"),
    "spread": ("spread",),
    "twochoose": ("twochoose",),
    "twodraw": ("twodraw",),
    "mixed": ("mixed",),
}


def places_within(lesser, greater):
    """Returns the tuple of the places of a book within another one, or None."""
    if greater.kernel not in WIDER[lesser.kernel]:
        return None
    places = []
    for layer in lesser.layers:
        # No two layers of a book are equal, since their names differ.
        place = greater.number_of(layer[1])
        if place == 0 or greater.layers[place - 1] != layer:
            return None
        places.append(place)
    return tuple(places) if places == sorted(places) else None


def _lifted_deed(deed, places):
    """Returns the deed with the number that its layer has in the other book."""
    if deed[0] in LAYERS:
        return (deed[0], places[deed[1] - 1], *deed[2:])
    return deed


def lifted(web, source, root):
    """Makes the part under a node of another web, lifted, and returns the node for root."""
    places = places_within(source.book, web.book)
    if places is None:
        raise WebError("the book of the part is not within the book of the web")
    numbers = {}
    for node in reached(source, root):
        children = [numbers[child] for child in source.children_of(node)]
        numbers[node] = web.make(_lifted_deed(source.deed_of(node), places), children)
    return numbers[root]
