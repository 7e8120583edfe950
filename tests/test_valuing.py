import random
import unittest

from besideandthrough.books import Book
from besideandthrough.drafts import Draft
from besideandthrough.errors import TooLarge
from besideandthrough.forms import body_at, form_of
from besideandthrough.leading import lead
from besideandthrough.states import starts
from besideandthrough.valuing import body_worth, worth
from besideandthrough.webs import Web
from besideandthrough.worlds import World
from tests import worths
from tests.helpers import KERNELS, LEFT, SIGNS, node_of
from tests.nodes import all_nodes

ROWS = ((("done", "0", (0,)), (6, -1)), (("done", "1", (0,)), (0, 5)), (("done", "0", (1,)), (-3, 2)))
CELL = (("cell", "c", 2),)


def any_state(book, generator):
    """A state with any entries, also notes other than 0."""
    state = []
    for word, _, extent in book.layers:
        if word == "note":
            extent = len(extent)
        state.append(generator.randrange(extent) if word in ("cell", "setting", "note") else 0)
    return tuple(state)


class Worths(unittest.TestCase):
    def worth(self, kernel, text, state, rows=ROWS, layers=CELL):
        web = Web(Book(kernel, layers))
        node = node_of(web, text)
        before = list(web)
        world = World(web.book, 2, rows)
        found = worth(world, web, node, state)
        self.assertEqual(list(web), before)
        self.assertEqual(world.rows, rows)
        self.assertEqual(found, worths.told(worths.worth(world, web, node, state)))
        return found

    def test_each_deed(self):
        two = "ret 0\nret 1\n"
        for kernel, text, state, found in (
            ("none", "ret 0", (0,), ((6, 1), (-1, 1))),
            ("none", "ret 0", (1,), ((-3, 1), (2, 1))),
            ("none", "ret 1", (1,), ((0, 1), (0, 1))),
            ("none", two + "get 1 : 0 1", (0,), ((6, 1), (-1, 1))),
            ("none", two + "get 1 : 1 0", (1,), ((-3, 1), (2, 1))),
            ("none", two + "put 1 0 : 0", (1,), ((6, 1), (-1, 1))),
            ("choose", two + "choose 0 : 0 1", (0,), ((6, 1), (5, 1))),
            ("twochoose", two + "choose 1 : 0 1", (0,), ((6, 1), (5, 1))),
            ("draw", two + "draw 0 1 3 : 0 1", (0,), ((2, 1), (3, 1))),
            ("draw", two + "draw 0 1 4 : 1 0", (0,), ((9, 2), (1, 2))),
            ("twodraw", two + "draw 1 1 4 : 1 0", (0,), ((9, 2), (1, 2))),
            ("spread", two + "draw 0 1 2 : 0 1\nchoose 0 : 2 0", (0,), ((6, 1), (2, 1))),
            # In this kernel a draw is worth what a choose is worth.
            ("mixed", two + "draw 0 1 6 : 0 1", (0,), ((6, 1), (5, 1))),
            ("mixed", two + "draw 0 5 6 : 1 0", (0,), ((6, 1), (5, 1))),
        ):
            with self.subTest(kernel=kernel, text=text):
                self.assertEqual(self.worth(kernel, text, state), found)

    def test_notes_settings_and_fails(self):
        layers = (("note", "n", LEFT), ("setting", "s", 2), ("fail", "f", 2), ("note", "m", SIGNS))
        rows = ((("done", "0", (1, 0, 0, 1)), (1, 2)), (("fail", 3, 1, (2, 0)), (3, 4)))
        for text, state, found in (
            ("ret 0\nnote 1 2 : 0", (1, 1, 0, 1), (1, 2)),
            ("ret 0\nnote 1 1 : 0\nnote 4 1 : 1", (0, 0, 0, 0), (1, 2)),
            ("ret 0\nnote 4 1 : 0", (1, 0, 0, 1), (0, 0)),
            ("fail 3 1\nnote 4 1 : 0", (2, 1, 0, 1), (3, 4)),
            ("fail 3 0", (2, 1, 0, 1), (0, 0)),
            ("fail 3 1\nfail 3 0\nlook 2 : 1 0", (2, 1, 0, 1), (3, 4)),
        ):
            with self.subTest(text):
                numbers = self.worth("choose", text, state, rows, layers)
                self.assertEqual(numbers, tuple((number, 1) for number in found))

    def test_asks(self):
        layers = (("cell", "c", 2), ("outside", "o", (2, 1)), ("note", "n", SIGNS))
        text = "ret 0\nret 1\nget 1 : 0 1\nask 2 0 : 2 0\nnote 3 1 : 3"
        zero, one = ("done", "0", (0, 0, 1)), ("done", "1", (1, 0, 1))
        children = ((((5, 1), (0, 1)), ((-1, 1), (7, 1))), (((5, 1), (0, 1)), ((0, 1), (0, 1))))
        rows = ((zero, (5, 0)), (one, (-1, 7)), (("ask", 2, 0, (1,), children), (8, 9)))
        self.assertEqual(self.worth("none", text, (1, 0, 0), rows, layers), ((8, 1), (9, 1)))
        self.assertEqual(self.worth("none", text, (0, 0, 0), rows, layers), ((0, 1), (0, 1)))
        # Another number of an end within makes another key.
        rows = ((zero, (5, 1)), *rows[1:])
        self.assertEqual(self.worth("none", text, (1, 0, 0), rows, layers), ((0, 1), (0, 1)))

    def test_bodies(self):
        world = World(Book("spread", CELL), 2, ROWS)
        x, y = ("done", "0", (0,)), ("done", "1", (0,))
        X, Y, M = (1, ((x, 1),)), (1, ((y, 1),)), (3, ((x, 1), (y, 2)))
        self.assertEqual(body_worth(world, (X,)), ((6, 1), (-1, 1)))
        self.assertEqual(body_worth(world, (X, Y)), ((6, 1), (5, 1)))
        self.assertEqual(body_worth(world, (M,)), ((2, 1), (3, 1)))
        self.assertEqual(body_worth(world, (Y, M)), ((2, 1), (5, 1)))

    def test_the_body_of_a_node_is_worth_what_the_node_is_worth(self):
        seen = set()
        generator = random.Random(3)
        for seed in (70, 71):
            for at, (web, nodes) in enumerate(all_nodes(4, 3, seed=seed)):
                bodies, pairs = [], []
                for node in nodes:
                    for state in (*starts(web.book), any_state(web.book, generator)):
                        try:
                            bodies.append(body_at(web, node, state))
                            pairs.append((node, state))
                        except TooLarge:
                            pass
                world = worths.random_world(web.book, bodies, 2, at)
                for body, (node, state) in zip(bodies, pairs):
                    found = worth(world, web, node, state)
                    self.assertEqual(found, body_worth(world, body))
                    self.assertEqual(found, worths.told(worths.worth(world, web, node, state)))
                    self.assertEqual(found, worths.told(worths.body_worth(world, body)))
                    seen.add((web.book.kernel, web.deed_of(node)[0]))
        self.assertEqual({kernel for kernel, _ in seen}, set(KERNELS))
        self.assertEqual({word for _, word in seen}, {"ret", "fail", "choose", "draw", "get", "put",
                                                      "look", "note", "ask"})

    def test_the_sides_of_a_paper(self):
        """The two sides have the same worths, also at states with notes."""
        seen = set()
        generator = random.Random(4)
        for at, (web, nodes) in enumerate(all_nodes(3, 3, seed=72)):
            for node in nodes:
                draft = Draft(web)
                try:
                    other = draft.right(lead(draft, node))
                    bodies = form_of(web, node)
                except TooLarge:
                    continue
                world = worths.random_world(web.book, bodies, 3, at)
                for state in (*starts(web.book), any_state(web.book, generator)):
                    self.assertEqual(worth(world, web, node, state), worth(world, web, other, state))
                seen.add(web.book.kernel)
        self.assertEqual(seen, set(KERNELS))

    def test_a_deep_node(self):
        web = Web(Book("draw", CELL))
        node = web.make(("ret", "0"), ())
        for at in range(3000):
            node = web.make(("put", 1, at % 2), [node]) if at % 3 else web.make(
                ("draw", 0, 1, 2), [node, node])
        world = World(web.book, 2, ROWS)
        self.assertEqual(worth(world, web, node, (1,)), ((-3, 1), (2, 1)))


if __name__ == "__main__":
    unittest.main()
