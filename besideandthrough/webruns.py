"""Running webs, and all ways through them."""

from besideandthrough.plays import Play, end_at, step_of, takes_number
from besideandthrough.shares import lowest, times
from besideandthrough.states import values_at


def walk(play, web, root):
    """Runs a web from a node in a play; returns the number of the node at the end."""
    node = root
    while web.children_of(node):
        node = web.children_of(node)[play.answer(web.deed_of(node))]
    return node


def run_web(web, root, *, start, script=()):
    """Returns the outcome of the run of a web from a node."""
    play = Play(web.book, start, script)
    node = walk(play, web, root)
    return play.outcome(web.deed_of(node))


def deeds_on_run(web, root, *, start, script=()):
    """Returns how many deeds the run of a web from a node does."""
    play = Play(web.book, start, script)
    walk(play, web, root)
    return play.deeds


def _asking_numbers(book, layer, outside):
    """Returns the product of the number of answers and of the values beneath a layer."""
    many = book.ways_at(layer, outside)
    for number in range(1, layer):
        many = many * values_at(book, number)
    return many


def _numbers_at(book, deed):
    """Returns the numbers that a way may take at a deed, ascending."""
    if deed[0] == "choose":
        return [0, 1]
    if deed[0] == "draw":
        return [0, deed[2]]
    if deed[0] == "ask":
        return list(range(_asking_numbers(book, deed[1], deed[2])))
    return [0]


def _share_of(deed, number):
    """Returns the share that a number has at a deed."""
    if deed[0] != "draw":
        return 1, 1
    return lowest(deed[2] if number == 0 else deed[3] - deed[2], deed[3])


class Way:
    """A way up to a node: what it has taken, and what it has done."""

    def __init__(self, node, state):
        self.node = node
        self.state = state
        self.numbers = ()
        self.share = (1, 1)
        self.asked = ()
        self.deeds = 0

    def further(self, web, number):
        """Returns this way one deed further, which takes a number if it needs one."""
        deed = web.deed_of(self.node)
        at, state, told = step_of(web.book, self.state, deed, number)
        longer = Way(web.children_of(self.node)[at], state)
        longer.numbers = (*self.numbers, number) if takes_number(deed) else self.numbers
        longer.share = times(self.share, _share_of(deed, number))
        longer.asked = self.asked + told
        longer.deeds = self.deeds + 1
        return longer


def ways(web, root, start):
    """Yields all ways from a node and a start state, ascending by their numbers."""
    waiting = [Way(root, start)]
    while waiting:
        way = waiting.pop()
        deed = web.deed_of(way.node)
        if web.children_of(way.node):
            # The way with the least number goes on first, so it is put last.
            for number in reversed(_numbers_at(web.book, deed)):
                waiting.append(way.further(web, number))
        else:
            outcome = (way.asked, end_at(web.book, way.state, deed))
            yield way.numbers, way.share, outcome, way.deeds
