import random
import unittest
from math import gcd

from besideandthrough.books import Book
from besideandthrough.drafts import Draft
from besideandthrough.squares import collapse
from besideandthrough.webs import Web
from tests.building import led
from tests.helpers import KERNELS, node_of
from tests.nodes import Nodes, all_nodes

SHARES = [(a, b) for b in range(2, 7) for a in range(1, b) if gcd(a, b) == 1]
SECOND = {
    "twochoose": [(("choose", 1), ("choose", 0))],
    "twodraw": [(("draw", 1, a, b), ("draw", 0, a, b)) for a, b in SHARES],
    "mixed": [(("draw", 0, a, b), ("choose", 0)) for a, b in SHARES],
}
LAYERS = [("cell", "c", 2), ("outside", "o", (2,))]


class Collapsing(unittest.TestCase):
    def judge(self, web, node, deed, children):
        draft = Draft(web)
        left, right = led(self, draft, collapse, node)
        self.assertEqual(left, node)
        self.assertEqual((web.deed_of(right), web.children_of(right)), (deed, children))

    def test_deeds_of_the_second_piece(self):
        for kernel, deeds in SECOND.items():
            for deed, first in deeds:
                web = Web(Book(kernel, LAYERS))
                x, y = node_of(web, "ret 0"), node_of(web, "ret 1")
                for children in ((x, y), (y, x), (x, x)):
                    with self.subTest(kernel=kernel, deed=deed, children=children):
                        self.judge(web, web.make(deed, children), first, children)

    def test_any_children(self):
        """The children may have deeds of both pieces, or be the children of each other."""
        generator = random.Random(8)
        for kernel, deeds in SECOND.items():
            made = Nodes(Book(kernel, LAYERS), 3)
            nodes = made.nodes(8, 4)
            for deed, first in deeds:
                for _ in range(5):
                    children = (generator.choice(nodes), generator.choice(nodes))
                    node = made.web.make(deed, children)
                    nodes.append(node)
                    self.judge(made.web, node, first, children)
                    nested = (made.web.make(first, children), node)
                    self.judge(made.web, made.web.make(deed, nested), first, nested)

    def test_other_nodes_stay(self):
        seen = set()
        for web, nodes in all_nodes(8, 3, seed=20):
            for node in nodes:
                deed = web.deed_of(node)
                if deed not in [second for second, _ in SECOND.get(web.book.kernel, [])]:
                    self.judge(web, node, deed, web.children_of(node))
                    seen.add((web.book.kernel, deed[0]))
        self.assertEqual({kernel for kernel, _ in seen}, set(KERNELS))
        self.assertLess({("choose", "choose"), ("spread", "choose"), ("spread", "draw"),
                         ("draw", "draw"), ("mixed", "choose"), ("none", "ret"),
                         ("twodraw", "draw"), ("twochoose", "choose")}, seen)

    def test_the_same_row_again(self):
        web = Web(Book("twodraw", ()))
        node = node_of(web, "ret 0\nret 1\ndraw 1 2 5 : 0 1")
        draft = Draft(web)
        row = collapse(draft, node)
        many = len(draft.rows)
        self.assertEqual(collapse(draft, node), row)
        self.assertEqual(len(draft.rows), many)


if __name__ == "__main__":
    unittest.main()
