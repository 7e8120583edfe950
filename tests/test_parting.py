import unittest

from besideandthrough.bodies import ends_of
from besideandthrough.books import Book
from besideandthrough.errors import TooLarge
from besideandthrough.forms import form_of
from besideandthrough.parting import parted, parting_world
from besideandthrough.states import starts
from besideandthrough.valuing import worth
from besideandthrough.webs import Web
from besideandthrough.worlds import World, read_world, write_world
from tests import worths
from tests.helpers import KERNELS, node_of
from tests.nodes import all_nodes
from tests.test_leading import NINE, nested_asks


def counted(forms):
    """The numbers of different ends and of different bodies within forms (point [110])."""
    ends, bodies = set(), set()

    def count(body):
        bodies.add(body)
        for end in ends_of(body):
            ends.add(end)
            for part in end[4] if end[0] == "ask" else ():
                for child in part:
                    count(child)

    for form in forms:
        for body in form:
            count(body)
    return len(ends), len(bodies)


class Parting(unittest.TestCase):
    def sized(self, world, forms):
        many, different = counted(forms)
        self.assertLessEqual(len(world.rows), many)
        self.assertLessEqual(world.scales, max(1, different - 1))
        again = read_world(world.book, write_world(world))
        self.assertEqual((again.scales, again.rows), (world.scales, world.rows))

    def judge(self, web, roots):
        """A parting world; returns the number of different bodies at start states."""
        before = list(web)
        forms = [form_of(web, root) for root in roots]
        world = parting_world(web, *roots)
        self.assertIsInstance(world, World)
        self.assertIs(world.book, web.book)
        self.assertEqual(list(web), before)
        self.sized(world, forms)
        bodies = {}
        for root, form in zip(roots, forms):
            for state, body in zip(starts(web.book), form):
                found = worth(world, web, root, state)
                self.assertEqual(bodies.setdefault(body, found), found)
        self.assertEqual(len(set(bodies.values())), len(bodies))
        return len(bodies)

    def nodes_with_forms(self, many, depth, seed):
        for web, nodes in all_nodes(many, depth, seed=seed):
            found = []
            for node in nodes:
                try:
                    form_of(web, node)
                    found.append(node)
                except TooLarge:
                    pass
            yield web, found

    def test_one_node_and_equal_ones(self):
        for web, nodes in self.nodes_with_forms(3, 3, 80):
            for node in nodes:
                many = self.judge(web, [node])
                self.assertEqual(self.judge(web, [node, node]), many)

    def test_no_node(self):
        for kernel in KERNELS:
            world = parting_world(Web(Book(kernel, [("cell", "c", 2)])))
            self.assertEqual((world.scales, world.rows), (1, ()))

    def test_one_body_and_two_bodies(self):
        web = Web(Book("spread", ()))
        one, two = node_of(web, "ret 0"), node_of(web, "ret 0\nret 1\ndraw 0 1 3 : 0 1")
        three = node_of(web, "ret 0\nret 1\nchoose 0 : 0 1")
        self.assertEqual(parting_world(web, one).scales, 1)
        for roots in ((one, two), (two, three), (three, one)):
            self.assertEqual(parting_world(web, *roots).scales, 1)
            self.assertEqual(self.judge(web, roots), 2)
        self.assertEqual(self.judge(web, (one, two, three)), 3)

    def test_many_nodes(self):
        most = {kernel: 0 for kernel in KERNELS}
        for web, nodes in self.nodes_with_forms(25, 3, 81):
            kernel = web.book.kernel
            most[kernel] = max(most[kernel], self.judge(web, nodes))
        self.assertGreater(min(most.values()), 20)

    def test_asks_within_each_other(self):
        for many in (1, 2, 5, 12):
            web, node = nested_asks(many)
            self.judge(web, [node])
            self.judge(web, [node, *range(5), node - 1])

    def test_sets_of_ends(self):
        """All choices between some of six results, and all draws of three of them."""
        for kernel in ("choose", "twochoose", "mixed", "spread"):
            web = Web(Book(kernel, ()))
            nodes = [web.make(("ret", str(at)), ()) for at in range(6)]
            roots = []
            for row in range(1, 64):
                some = [node for at, node in enumerate(nodes) if row & 2 ** at]
                tree = some[0]
                for node in some[1:]:
                    tree = web.make(("choose", 0), [tree, node])
                roots.append(tree)
            self.assertEqual(self.judge(web, roots), 63)

    def test_bodies_that_differ_within_others(self):
        """Body after body is grown by a little corner, so that most points stay."""
        web = Web(Book("spread", ()))
        nodes = [web.make(("ret", str(at)), ()) for at in range(4)]
        tree, roots = nodes[0], []
        for at in range(1, 4):
            tree = web.make(("choose", 0), [tree, nodes[at]])
            for shares in ((1, 7), (1, 3), (2, 5), (1, 2)):
                point = web.make(("draw", 0, *shares), [nodes[(at + 1) % 4], nodes[0]])
                roots.append(web.make(("choose", 0), [tree, point]))
            roots.append(tree)
        self.judge(web, roots)

    def test_parted(self):
        told = {True: set(), False: set()}
        for web, nodes in self.nodes_with_forms(6, 2, 82):
            for a in nodes:
                for b in nodes:
                    told[self.part(web, a, b)].add(web.book.kernel)
        self.assertEqual(told, {True: set(KERNELS), False: set(KERNELS)})

    def part(self, web, a, b):
        """Parts two nodes; returns True if they are parted, otherwise False."""
        before = list(web)
        forms = [form_of(web, a), form_of(web, b)]
        found = parted(web, a, b)
        self.assertEqual(list(web), before)
        if forms[0] == forms[1]:
            self.assertIsNone(found)
            return False
        self.assertIsInstance(found, tuple)
        world, start, scale = found
        self.assertIs(world.book, web.book)
        self.assertIn(start, starts(web.book))
        self.assertIn(scale, range(world.scales))
        self.sized(world, forms)
        one, other = [worths.worth(world, web, node, start) for node in (a, b)]
        self.assertNotEqual(one[scale], other[scale])
        return True

    def test_parted_only_within_asks(self):
        web = Web(Book("none", [("cell", "c", 2), ("outside", "o", (1,))]))
        one = node_of(web, "ret 0\nret 1\nget 1 : 0 1\nask 2 0 : 2\nask 2 0 : 3")
        other = node_of(web, "ret 0\nask 2 0 : 0\nask 2 0 : 1")
        self.assertTrue(self.part(web, one, other))
        self.assertFalse(self.part(web, one, one))

    def test_too_large(self):
        web = Web(Book("spread", ()))
        large = node_of(web, NINE)
        for call, given in ((parting_world, (large,)), (parting_world, (0, large)),
                            (parted, (0, large)), (parted, (large, 0)), (parted, (large, large))):
            with self.assertRaises(TooLarge):
                call(web, *given)


if __name__ == "__main__":
    unittest.main()
