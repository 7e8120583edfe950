"""The ways back from terms to ends, bodies and parts."""

from besideandthrough.bodies import body_above, only, settled
from besideandthrough.points import point_of
from besideandthrough.shares import whole_numbers
from besideandthrough.states import has_values
from besideandthrough.steps import shares_over
from besideandthrough.webs import ordered


def highest_values(book, layer):
    """Returns the number of the highest cell or setting beneath a layer, or 0."""
    for number in range(layer - 1, 0, -1):
        if has_values(book, number):
            return number
    return 0


def branches(web, node):
    """Returns the children of a choose or a draw, and none of any other node."""
    if web.deed_of(node)[0] in ("choose", "draw"):
        return web.children_of(node)
    return ()


def leaves_of(web, node):
    """Returns the list of the nodes over which choices and draws lead to a node."""
    found = ordered(node, lambda at: branches(web, at))
    return [each for each in found if not branches(web, each)]


def leaf_shares(web, node):
    """Returns a dict from the nodes over which draws of any piece lead to their shares."""
    return shares_over(web, node, lambda at: branches(web, at))


class Backs:
    """The ends and bodies of nodes of one web that are terms, each found once."""

    def __init__(self, web):
        self.web = web
        self.ends = {}
        self.bodies = {}
        self.chosen = {}

    def end(self, node):
        """Returns the end of a node that is its term."""
        if node not in self.ends:
            self.ends[node] = self._end_read(node)
        return self.ends[node]

    def _end_read(self, node):
        web = self.web
        entries = {}
        while web.deed_of(node)[0] in ("put", "note"):
            _, layer, entry = web.deed_of(node)
            entries[layer] = entry
            node = web.children_of(node)[0]
        deed = web.deed_of(node)
        beneath = web.book.size if deed[0] == "ret" else deed[1] - 1
        kept = tuple([entries.get(at + 1, 0) for at in range(beneath)])
        if deed[0] == "ret":
            return "done", deed[1], kept
        if deed[0] == "fail":
            return (*deed, kept)
        parts = [tuple(self.part(deed[1], child)) for child in web.children_of(node)]
        return (*deed, kept, tuple(parts))

    def part(self, layer, node):
        """Returns the list of the bodies in the part beneath a layer of its term."""
        number = highest_values(self.web.book, layer)
        if number == 0:
            return [self.body(node)]
        parts = [self.part(number, child) for child in self.web.children_of(node)]
        return [body for row in zip(*parts) for body in row]

    def has_choice(self, node):
        """Returns True if there is a choose among the choices and draws of a node."""
        web = self.web
        missing = ordered(node, lambda at: () if at in self.chosen else branches(web, at))
        for each in missing:
            if each not in self.chosen:
                below = [self.chosen[child] for child in branches(web, each)]
                self.chosen[each] = web.deed_of(each)[0] == "choose" or any(below)
        return self.chosen[node]

    def body(self, node):
        """Returns the body of a node that is made of choices and draws over terms of ends."""
        needed = ordered(node, lambda at: self._parts_of(at))
        for each in needed:
            if each not in self.bodies:
                self.bodies[each] = self._body_read(each)
        return self.bodies[node]

    def _parts_of(self, node):
        """Returns the children whose bodies lead to the body of a node."""
        # Only in this kernel it matters in which order a body is settled.
        if self.web.book.kernel == "spread" and node not in self.bodies and self.has_choice(node):
            return branches(self.web, node)
        return ()

    def _body_read(self, node):
        web = self.web
        kernel = web.book.kernel
        parts = self._parts_of(node)
        if parts:
            one, other = [self.bodies[child] for child in parts]
            return body_above(kernel, web.deed_of(node), one, other)
        if kernel in ("draw", "twodraw", "spread"):
            shares = leaf_shares(web, node)
            numbers = whole_numbers(list(shares.values()))
            return (point_of([(self.end(leaf), many) for leaf, many in zip(shares, numbers)]),)
        return settled(kernel, [only(self.end(leaf))[0] for leaf in leaves_of(web, node)])

    def remember(self, node, body):
        """Keeps the body of a node, which is its term."""
        self.bodies[node] = body
        for at in range(1, len(body)):
            node = self.web.children_of(node)[1]
            self.bodies[node] = body[at:]
