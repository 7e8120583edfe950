"""Worths by the words of points [107] and [108], written apart from the program.

A worth is a list of fractions of Python's own here.
"""

import random
from fractions import Fraction

from besideandthrough.bodies import ends_of
from besideandthrough.worlds import World
from tests import normal


def told(worth):
    """A worth as the document tells it."""
    return tuple((number.numerator, number.denominator) for number in worth)


def key_worth(world, key):
    for other, numbers in world.rows:
        if other == key:
            return [Fraction(number) for number in numbers]
    return [Fraction(0)] * world.scales


def greatest(worths):
    return [max(numbers) for numbers in zip(*worths)]


def worth(world, web, node, state):
    """The worth of a node at a state."""
    book = web.book
    deed, children = web.deed_of(node), web.children_of(node)
    word = deed[0]
    if word == "ret":
        return key_worth(world, ("done", deed[1], normal.kept(book, state, book.size + 1)))
    if word == "fail":
        return key_worth(world, (*deed, normal.kept(book, state, deed[1])))
    if word in ("get", "look"):
        return worth(world, web, children[state[deed[1] - 1]], state)
    if word in ("put", "note"):
        entries = list(state)
        entries[deed[1] - 1] = deed[2]
        if word == "note":
            entries[deed[1] - 1] = book.layers[deed[1] - 1][2][state[deed[1] - 1]][deed[2]]
        return worth(world, web, children[0], tuple(entries))
    if word == "ask":
        parts = tuple(tuple(told(worth(world, web, child, each))
                            for each in normal.below(book, deed[1], state)) for child in children)
        return key_worth(world, (*deed, normal.kept(book, state, deed[1]), parts))
    one, other = [worth(world, web, child, state) for child in children]
    if word == "choose" or book.kernel == "mixed":
        return greatest([one, other])
    share = Fraction(deed[2], deed[3])
    return [share * a + (1 - share) * b for a, b in zip(one, other)]


def end_worth(world, end):
    if end[0] == "ask":
        parts = tuple(tuple(told(body_worth(world, body)) for body in part) for part in end[4])
        end = (*end[:4], parts)
    return key_worth(world, end)


def body_worth(world, body):
    worths = []
    for den, pairs in body:
        ends = [[Fraction(number, den) * each for each in end_worth(world, end)]
                for end, number in pairs]
        worths.append([sum(numbers) for numbers in zip(*ends)])
    return greatest(worths)


def random_world(book, bodies, scales, seed):
    """A world with random numbers for all ends within bodies, those in asks first."""
    generator = random.Random(seed)
    rows, keys = [], set()

    def add(body):
        for end in ends_of(body):
            key = end
            if end[0] == "ask":
                for part in end[4]:
                    for child in part:
                        add(child)
                world = World(book, scales, rows)
                key = (*end[:4], tuple(tuple(told(body_worth(world, child)) for child in part)
                                       for part in end[4]))
            if key not in keys:
                keys.add(key)
                rows.append((key, tuple(generator.randint(-9, 9) for _ in range(scales))))

    for body in bodies:
        add(body)
    return World(book, scales, rows)
