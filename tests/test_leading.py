import unittest

from besideandthrough.acting import form_from_ends
from besideandthrough.books import Book
from besideandthrough.drafts import Draft
from besideandthrough.errors import TooLarge
from besideandthrough.forms import form_of
from besideandthrough.leading import Leader, lead, paper_between
from besideandthrough.papers import judge
from besideandthrough.terms import term_of
from besideandthrough.webs import Web, reached
from tests.building import Building, led
from tests.helpers import KERNELS, LEFT, SIGNS, node_of
from tests.nodes import Nodes, all_nodes

NINE = "\n".join([f"ret {at}" for at in range(9)] + ["choose 0 : 0 1"]
                 + [f"choose 0 : {at + 9} {at + 2}" for at in range(7)])


def nested_asks(many, layers=(("outside", "o", (2, 1)), ("cell", "c", 2), ("note", "n", SIGNS))):
    """A web with asks within each other, between puts, gets, notes and choices."""
    web = Web(Book("choose", layers))
    node, other = web.make(("ret", "0"), ()), web.make(("ret", "1"), ())
    for at in range(many):
        put = web.make(("put", 2, at % 2), [node])
        get = web.make(("get", 2), [node, other])
        note = web.make(("note", 3, 1), [web.make(("choose", 0), [put, get])])
        node = web.make(("ask", 1, 0), [note, put]) if at % 2 else web.make(("ask", 1, 1), [note])
    return web, node


class Leading(unittest.TestCase):
    def judge(self, draft, call, root):
        """Leads a node; returns False if its form cannot be computed from the ends."""
        try:
            form = form_from_ends(draft.web, root)
        except TooLarge:
            with Building(self, draft), self.assertRaises(TooLarge):
                call(draft, root)
            return False
        left, right = led(self, draft, call, root)
        self.assertEqual((left, right), (root, term_of(draft.web, form)))
        self.assertEqual(form, form_of(draft.web, root))
        return True

    def test_all_kernels(self):
        seen = set()
        for depth, seed in ((3, 50), (4, 51)):
            for web, nodes in all_nodes(4, depth, seed=seed):
                for node in nodes:
                    if self.judge(Draft(web), lead, node):
                        seen.add((web.book.kernel, web.deed_of(node)[0]))
        self.assertEqual({kernel for kernel, _ in seen}, set(KERNELS))
        self.assertLess({("none", word) for word in ("ret", "fail", "get", "put", "look", "note",
                                                     "ask")}, seen)

    def test_one_draft_for_many_roots(self):
        for web, nodes in all_nodes(5, 3, seed=52):
            draft = Draft(web)
            for node in nodes:
                self.judge(draft, lead, node)

    def test_asks_within_each_other(self):
        for many in (1, 2, 3, 8, 12):
            web, node = nested_asks(many)
            self.assertTrue(self.judge(Draft(web), lead, node))
        layers = (("outside", "o", (2, 1)), ("cell", "c", 2), ("note", "n", LEFT),
                  ("outside", "p", (1,)), ("setting", "s", 2))
        web, node = nested_asks(4, layers)
        node = web.make(("look", 5), [web.make(("ask", 4, 0), [node]), node])
        self.assertTrue(self.judge(Draft(web), lead, web.make(("choose", 0), [node, 0])))

    def test_too_many_share_points(self):
        web = Web(Book("spread", [("cell", "c", 2)]))
        node = node_of(web, NINE)
        self.assertFalse(self.judge(Draft(web), lead, node))
        # The form can be found, since nothing leads to the nine points.
        hidden = web.make(("put", 1, 0), [web.make(("get", 1), [0, node])])
        self.assertEqual(len(form_of(web, hidden)[0]), 1)
        self.assertFalse(self.judge(Draft(web), lead, hidden))
        web = Web(Book("choose", [("cell", "c", 2)]))
        self.assertTrue(self.judge(Draft(web), lead, node_of(web, NINE)))

    def test_a_leader(self):
        seen = set()
        for web, nodes in all_nodes(4, 3, seed=53):
            draft = Draft(web)
            leader = Leader(draft)
            self.assertIs(leader.draft, draft)
            self.assertEqual(leader.nodes_led, 0)
            every, rows = set(), {}
            for node in nodes:
                if not self.judge(draft, lambda _, root: leader(root), node):
                    break
                rows[node] = leader(node)
                every.update(reached(web, node))
                self.assertEqual(leader.nodes_led, len(every))
                seen.add(web.book.kernel)
            else:
                many = len(draft.rows)
                for node in nodes + nodes:
                    self.assertEqual(leader(node), rows[node])
                self.assertEqual(leader.nodes_led, len(every))
                self.assertEqual(len(draft.rows), many)
        self.assertEqual(seen, set(KERNELS))

    def test_leading_a_child_first(self):
        web, node = nested_asks(3)
        draft = Draft(web)
        leader = Leader(draft)
        part = reached(web, node)
        for many, each in enumerate(part):
            leader(each)
            self.assertEqual(leader.nodes_led, many + 1)
        self.assertEqual(judge(draft.paper(leader(node)))[0], node)
        self.assertEqual(leader.nodes_led, len(part))

    def test_a_web_that_grows(self):
        web = Web(Book("none", [("cell", "c", 2)]))
        leader = Leader(Draft(web))
        first = leader(node_of(web, "ret 0"))
        node = node_of(web, "ret 0\nput 1 1 : 0")
        self.assertEqual(judge(leader.draft.paper(leader(node)))[0], node)
        self.assertEqual(leader.nodes_led, 2)
        self.assertEqual(leader(0), first)

    def test_a_long_web(self):
        web = Web(Book("none", [("cell", "c", 2), ("note", "n", LEFT)]))
        node = web.make(("ret", "0"), ())
        for at in range(1500):
            node = web.make(("put", 1, at % 2) if at % 3 else ("note", 2, at % 2 + 1), [node])
        self.assertTrue(self.judge(Draft(web), lead, node))


class Between(unittest.TestCase):
    def judge(self, web, a, b):
        """Returns True if there is a paper, False if there is none, and None if TooLarge is raised."""
        before = list(web)
        try:
            same = form_from_ends(web, a) == form_from_ends(web, b)
        except TooLarge:
            with self.assertRaises(TooLarge):
                paper_between(web, a, b)
            return None
        paper = paper_between(web, a, b)
        self.assertEqual(list(web)[:len(before)], before)
        self.assertEqual(paper is not None, same)
        if paper is not None:
            self.assertIs(paper.web, web)
            self.assertEqual((paper.left, paper.right), (a, b))
            self.assertEqual(judge(paper), (a, b))
        return same

    def test_nodes_and_their_terms(self):
        seen = set()
        for web, nodes in all_nodes(3, 3, seed=60):
            for node in nodes:
                try:
                    term = term_of(web, form_of(web, node))
                except TooLarge:
                    continue
                for a, b in ((node, term), (term, node), (node, node), (term, term)):
                    if self.judge(web, a, b) is not None:
                        seen.add(web.book.kernel)
        self.assertEqual(seen, set(KERNELS))

    def test_any_two_nodes(self):
        told = {True: set(), False: set(), None: set()}
        for web, nodes in all_nodes(6, 2, seed=61):
            for a in nodes:
                for b in nodes:
                    told[self.judge(web, a, b)].add(web.book.kernel)
        self.assertEqual(told[True], set(KERNELS))
        self.assertEqual(told[False], set(KERNELS))

    def test_small_programs(self):
        """All nodes of a depth with few deeds: many have the same form."""
        for kernel in KERNELS:
            made = Nodes(Book(kernel, [("cell", "c", 2)]), 5)
            nodes = sorted(set(made.nodes(25, 2)))
            same = [self.judge(made.web, a, b) for a in nodes for b in nodes if a < b]
            self.assertIn(True, same)
            self.assertIn(False, same)

    def test_either_node_too_large(self):
        web = Web(Book("spread", ()))
        large = node_of(web, NINE)
        for a, b in ((0, large), (large, 0), (large, large)):
            self.assertIsNone(self.judge(web, a, b))


if __name__ == "__main__":
    unittest.main()
