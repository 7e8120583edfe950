import random
import unittest

from besideandthrough.books import Book
from besideandthrough.drafts import Draft
from besideandthrough.errors import TooLarge
from besideandthrough.settles import settle
from besideandthrough.terms import body_of, body_term, end_term
from besideandthrough.webs import Web
from besideandthrough.webtexts import write_web
from tests.building import Building, led
from tests.helpers import KERNELS, LEFT, node_of

LAYERS = [("cell", "c", 2), ("note", "n", LEFT), ("outside", "o", (2,)), ("fail", "f", 1)]
WORDS = {"none": (), "choose": ("choose 0",), "draw": ("draw 0",), "spread": ("choose 0", "draw 0"),
         "twochoose": ("choose 0", "choose 1"), "twodraw": ("draw 0", "draw 1"),
         "mixed": ("choose 0", "draw 0")}
SHARES = ((1, 2), (1, 3), (2, 3), (5, 6), (2, 5))


def ends():
    """Ends of each sort, one of them within another."""
    found = [("done", "0", (0, 0, 0, 0)), ("done", "1", (1, 2, 0, 0)), ("fail", 4, 0, (1, 1, 0)),
             ("done", "(0 1)", (0, 1, 0, 0))]
    bodies = tuple(((1, ((end, 1),)),) for end in found[:2])
    found.append(("ask", 3, 0, (0, 2), (bodies, bodies)))
    return found


def tree_node(web, word, generator, children):
    """A node with the deed of a word and two children."""
    sort, piece = word.split()
    shares = generator.choice(SHARES) if sort == "draw" else ()
    return web.make((sort, int(piece), *shares), children)


class Settling(unittest.TestCase):
    def judge(self, draft, node):
        """Settles a tree over ends, and returns the body; None stands for TooLarge."""
        try:
            body = body_of(draft.web, node)
        except TooLarge:
            with Building(self, draft), self.assertRaises(TooLarge):
                settle(draft, node)
            return None
        left, right = led(self, draft, settle, node)
        self.assertEqual(left, node)
        self.assertEqual(right, body_term(draft.web, body))
        # A tree that is settled already leads to itself.
        self.assertEqual(led(self, draft, settle, right), (right, right))
        return body

    def test_an_end(self):
        for kernel in KERNELS:
            web = Web(Book(kernel, LAYERS))
            for end in ends():
                node = end_term(web, end)
                self.assertEqual(self.judge(Draft(web), node), ((1, ((end, 1),)),))

    def test_random_trees(self):
        generator = random.Random(31)
        sizes = {kernel: set() for kernel in KERNELS}
        for kernel in KERNELS:
            for _ in range(60):
                web = Web(Book(kernel, LAYERS))
                draft = Draft(web)
                nodes = [end_term(web, end) for end in ends()[:generator.randint(1, 5)]]
                for _ in range(generator.randint(1, 9) if WORDS[kernel] else 0):
                    children = [generator.choice(nodes) for _ in range(2)]
                    nodes.append(tree_node(web, generator.choice(WORDS[kernel]), generator, children))
                body = self.judge(draft, nodes[-1])
                sizes[kernel].add(len(body) if body else 0)
        for kernel in ("choose", "twochoose", "mixed", "spread"):
            self.assertLessEqual({1, 2, 3}, sizes[kernel])
        for kernel in ("none", "draw", "twodraw"):
            self.assertEqual(sizes[kernel], {1})

    def test_draws_of_the_kernel_mixed(self):
        web = Web(Book("mixed", ()))
        node = node_of(web, "ret 2\nret 1\nret 0\ndraw 0 5 6 : 0 1\ndraw 0 1 2 : 3 2\n"
                            "choose 0 : 4 1")
        _, right = led(self, Draft(web), settle, node)
        self.assertEqual(write_web(web, right),
                         "ret 0\nret 1\nret 2\nchoose 0 : 1 2\nchoose 0 : 0 3")

    def test_draws_over_choices_on_either_side(self):
        choice = "ret 0\nret 1\nret 2\nchoose 0 : 0 1\n"
        for text, many in ((choice + "draw 0 1 3 : 3 2", 2), (choice + "draw 0 1 3 : 2 3", 2),
                           (choice + "draw 0 1 3 : 3 3", 2),
                           (choice + "choose 0 : 1 2\ndraw 0 1 3 : 3 4", 4),
                           (choice + "choose 0 : 2 3\ndraw 0 1 3 : 4 0", 3),
                           (choice + "draw 0 1 3 : 0 1\nchoose 0 : 4 2\ndraw 0 1 3 : 5 3", 4)):
            with self.subTest(text):
                web = Web(Book("spread", ()))
                self.assertEqual(len(self.judge(Draft(web), node_of(web, text))), many)

    def test_mixtures_of_other_share_points(self):
        # Four corners, and points within, on an edge and on a side of their body.
        web = Web(Book("spread", ()))
        nodes = [web.make(("ret", str(at)), ()) for at in range(4)]
        edge = web.make(("draw", 0, 1, 2), [nodes[0], nodes[1]])
        side = web.make(("draw", 0, 2, 3), [edge, nodes[2]])
        inner = web.make(("draw", 0, 1, 6), [nodes[3], side])
        tree = nodes[3]
        for node in (inner, nodes[0], side, nodes[1], edge, nodes[2], inner):
            tree = web.make(("choose", 0), [node, tree])
            self.judge(Draft(web), tree)
        self.assertEqual(len(self.judge(Draft(web), tree)), 4)

    def test_eight_and_nine_share_points(self):
        web = Web(Book("spread", ()))
        nodes = [web.make(("ret", str(at)), ()) for at in range(9)]
        tree = nodes[0]
        for node in nodes[1:8]:
            tree = web.make(("choose", 0), [node, tree])
        self.assertEqual(len(self.judge(Draft(web), tree)), 8)
        self.assertEqual(len(self.judge(Draft(web), web.make(("choose", 0), [nodes[3], tree]))), 8)
        self.assertIsNone(self.judge(Draft(web), web.make(("choose", 0), [tree, nodes[8]])))
        # The ninth point counts, although it is a mixture of others.
        middle = web.make(("draw", 0, 1, 2), [nodes[0], nodes[1]])
        self.assertIsNone(self.judge(Draft(web), web.make(("choose", 0), [tree, middle])))

    def test_where_choices_meet_settled_choices(self):
        """At each node at most eight points are counted, not over the whole tree."""
        web = Web(Book("spread", ()))
        nodes = [web.make(("ret", str(at)), ()) for at in range(8)]
        halves = []
        for some in (nodes[:4], nodes[4:]):
            tree = web.make(("draw", 0, 1, 2), some[:2])
            for node in (some[0], web.make(("draw", 0, 1, 3), some[:2]), *some[1:]):
                tree = web.make(("choose", 0), [tree, node])
            halves.append(tree)
        self.assertEqual(len(self.judge(Draft(web), web.make(("choose", 0), halves))), 8)

    def test_many_share_points(self):
        generator = random.Random(77)
        sizes = set()
        for _ in range(40):
            web = Web(Book("spread", ()))
            nodes = [web.make(("ret", str(at)), ()) for at in range(generator.randint(3, 7))]
            for _ in range(generator.randint(6, 14)):
                word = generator.choice(("choose 0", "choose 0", "draw 0"))
                children = [generator.choice(nodes[-8:]) for _ in range(2)]
                nodes.append(tree_node(web, word, generator, children))
            draft = Draft(web)
            for node in nodes[-5:]:
                body = self.judge(draft, node)
                sizes.add(len(body) if body else 0)
        self.assertLessEqual({0, 1, 2, 3, 4, 5}, sizes)

    def test_long_trees(self):
        for kernel, deed in (("choose", ("choose", 0)), ("draw", ("draw", 0, 1, 2)),
                             ("spread", ("draw", 0, 1, 2)), ("twochoose", ("choose", 1))):
            web = Web(Book(kernel, ()))
            tree = web.make(("ret", "0"), ())
            for at in range(1, 400):
                tree = web.make(deed, [web.make(("ret", str(at % 60)), ()), tree])
            self.judge(Draft(web), tree)


if __name__ == "__main__":
    unittest.main()
