import unittest

from besideandthrough.acting import form_from_ends
from besideandthrough.bodies import ends_within, only, settled
from besideandthrough.books import Book
from besideandthrough.errors import TooLarge
from besideandthrough.forms import form_of
from besideandthrough.grafts import caught, grafted
from besideandthrough.points import point_of
from besideandthrough.terms import (
    body_of, body_term, end_of, end_term, part_of, part_term, term_of)
from besideandthrough.thens import rescue, then
from besideandthrough.webs import Web, reached
from besideandthrough.webtexts import write_web
from tests import normal
from tests.helpers import KERNELS, LEFT, SIGNS, node_of
from tests.nodes import Nodes, all_nodes, books
from tests.test_bodies import BOW, M, X, Y, Z, x, y, z

BOOK = Book("spread", [("cell", "c", 2), ("setting", "s", 3), ("note", "n", LEFT),
                       ("fail", "f", 2), ("outside", "o", (1, 2))])
PLAIN = Book("spread", ())


def form_or_none(web, node):
    try:
        return form_of(web, node)
    except TooLarge:
        return None


class Ends(unittest.TestCase):
    def judge(self, book, end, text):
        web = Web(book)
        node = end_term(web, end)
        self.assertEqual(write_web(web, node), text)
        before = list(web)
        self.assertEqual(end_of(web, node), end)
        self.assertEqual(body_of(web, node), only(end))
        self.assertEqual(list(web), before)

    def test_results(self):
        self.judge(BOOK, ("done", "(1 2)", (1, 0, 2, 0, 0)),
                   "ret (1 2)\nput 1 1 : 0\nnote 3 2 : 1")
        # An entry that is 0 is written, too.
        self.judge(BOOK, ("done", "7", (0, 0, 0, 0, 0)), "ret 7\nput 1 0 : 0\nnote 3 0 : 1")
        self.judge(PLAIN, ("done", "7", ()), "ret 7")

    def test_failings(self):
        self.judge(BOOK, ("fail", 4, 1, (1, 0, 2)), "fail 4 1\nput 1 1 : 0\nnote 3 2 : 1")
        # What is above the layer is not kept.
        book = Book("none", [("note", "m", SIGNS), ("fail", "f", 1), ("cell", "c", 2)])
        self.judge(book, ("fail", 2, 0, (1,)), "fail 2 0\nnote 1 1 : 0")
        self.judge(Book("none", [("fail", "f", 1), ("cell", "c", 2)]), ("fail", 1, 0, ()), "fail 1 0")

    def test_asks(self):
        book = Book("none", [("cell", "c", 2), ("outside", "o", (2,)), ("note", "n", SIGNS)])
        ends = [("done", str(at), (at % 2, 0, 1)) for at in range(4)]
        parts = (tuple(map(only, ends[:2])), tuple(map(only, ends[2:])))
        self.judge(book, ("ask", 2, 0, (1,), parts), "\n".join([
            "ret 0", "put 1 0 : 0", "note 3 1 : 1", "ret 1", "put 1 1 : 3", "note 3 1 : 4",
            "get 1 : 2 5", "ret 2", "put 1 0 : 7", "note 3 1 : 8", "ret 3", "put 1 1 : 10",
            "note 3 1 : 11", "get 1 : 9 12", "ask 2 0 : 6 13", "put 1 1 : 14"]))


class Bodies(unittest.TestCase):
    def judge(self, book, body, text):
        web = Web(book)
        node = body_term(web, body)
        self.assertEqual(write_web(web, node), text)
        before = list(web)
        self.assertEqual(body_of(web, node), body)
        self.assertEqual(list(web), before)

    def test_one_share_point(self):
        self.judge(PLAIN, only(x), "ret 0")
        self.judge(PLAIN, (M,), "ret 0\nret 1\ndraw 0 1 2 : 0 1")
        # 4 / 10, and of the rest 3 / 6.
        self.judge(PLAIN, (point_of([(x, 4), (y, 3), (z, 3)]),),
                   "ret 0\nret 1\nret 2\ndraw 0 1 2 : 1 2\ndraw 0 2 5 : 0 3")

    def test_more_share_points(self):
        self.judge(PLAIN, (X, Y, Z), "ret 0\nret 1\nret 2\nchoose 0 : 1 2\nchoose 0 : 0 3")
        self.judge(PLAIN, settled("spread", [M, Z]),
                   "ret 2\nret 0\nret 1\ndraw 0 1 2 : 1 2\nchoose 0 : 0 3")
        for kernel in ("choose", "twochoose", "mixed"):
            self.judge(Book(kernel, ()), (X, Y), "ret 0\nret 1\nchoose 0 : 0 1")

    def test_a_large_b(self):
        body = (point_of([(x, 1), (y, 998)]),)
        for kernel in ("draw", "twodraw"):
            self.judge(Book(kernel, ()), body, "ret 0\nret 1\ndraw 0 1 999 : 0 1")

    def test_many_ends(self):
        ends = [("done", str(number), ()) for number in range(900)]
        for kernel, body in (("draw", (point_of([(end, 1 + len(end[1])) for end in ends]),)),
                             ("choose", settled("choose", [(1, ((end, 1),)) for end in ends]))):
            web = Web(Book(kernel, ()))
            self.assertEqual(body_of(web, body_term(web, body)), body)

    def test_any_choices_and_draws(self):
        texts = {
            "choose": [("ret 1\nret 0\nchoose 0 : 0 1\nchoose 0 : 2 2", (X, Y))],
            "twochoose": [("ret 1\nret 0\nchoose 1 : 0 1\nret 2\nchoose 0 : 3 2", (X, Y, Z))],
            "draw": [("ret 1\nret 0\ndraw 0 1 2 : 0 1\ndraw 0 1 3 : 0 2",
                      (point_of([(x, 1), (y, 2)]),)),
                     ("ret 1\ndraw 0 1 2 : 0 0", (Y,))],
            "twodraw": [("ret 1\nret 0\ndraw 1 1 2 : 0 1\ndraw 0 2 3 : 2 1",
                         (point_of([(x, 2), (y, 1)]),))],
            "mixed": [("ret 1\nret 0\ndraw 0 1 2 : 0 1\nret 2\nchoose 0 : 3 2", (X, Y, Z))],
            "spread": [("ret 1\nret 0\nchoose 0 : 0 1\ndraw 0 1 2 : 0 2",
                        settled("spread", [Y, M])),
                       ("ret 1\nret 0\ndraw 0 1 2 : 0 1\nchoose 0 : 2 0\nchoose 0 : 1 3", (X, Y))],
        }
        for kernel, rows in texts.items():
            for text, body in rows:
                web = Web(Book(kernel, ()))
                self.assertEqual(body_of(web, node_of(web, text)), body)

    def test_too_large(self):
        web = Web(PLAIN)
        nodes = [body_term(web, (point,)) for point in BOW]
        root = nodes[0]
        for node in nodes[1:8]:
            root = web.make(("choose", 0), [root, node])
        self.assertEqual(body_of(web, root), tuple(sorted(BOW[:8])))
        root = web.make(("choose", 0), [root, nodes[8]])
        before = list(web)
        with self.assertRaises(TooLarge):
            body_of(web, root)
        self.assertEqual(list(web), before)


class Parts(unittest.TestCase):
    def test_without_cells_and_settings(self):
        book = Book("none", [("note", "n", SIGNS), ("fail", "f", 1), ("cell", "c", 2)])
        for layer in (1, 2, 3):
            web = Web(book)
            node = part_term(web, layer, (only(("fail", 2, 0, (1,))),))
            self.assertEqual(write_web(web, node), "fail 2 0\nnote 1 1 : 0")
            self.assertEqual(part_of(web, layer, node), (only(("fail", 2, 0, (1,))),))

    def test_the_highest_cell_or_setting_is_read_first(self):
        book = Book("none", [("fail", "f", 3), ("cell", "c", 2), ("setting", "s", 3),
                             ("note", "n", SIGNS), ("cell", "d", 2)])
        ends = [("fail", 1, at % 3, ()) for at in range(12)]
        web = Web(book)
        node = term_of(web, tuple(only(end) for end in ends))
        self.assertEqual(web.deed_of(node), ("get", 5))
        for d, behind in enumerate(web.children_of(node)):
            self.assertEqual(web.deed_of(behind), ("look", 3))
            for s, further in enumerate(web.children_of(behind)):
                self.assertEqual(web.deed_of(further), ("get", 2))
                for c, last in enumerate(web.children_of(further)):
                    self.assertEqual(web.deed_of(last), ends[6 * c + 2 * s + d][:3])
        self.assertEqual(part_of(web, 6, node), tuple(only(end) for end in ends))
        # Beneath the highest cell there are half as many bodies.
        child = web.children_of(node)[1]
        self.assertEqual(part_of(web, 5, child), tuple(only(end) for end in ends[1::2]))
        self.assertEqual(part_term(web, 5, tuple(only(end) for end in ends[1::2])), child)

    def test_the_form_of_a_ret(self):
        for book in books():
            web = Web(book)
            form = form_of(web, web.make(("ret", "5"), ()))
            node = term_of(web, form)
            self.assertEqual(form_of(web, node), form)
            deeds = [web.deed_of(each) for each in reached(web, node)]
            reads = [deed[0] for deed in deeds if deed[0] in ("get", "look")]
            if not reads:
                words = [("note", at + 1, 0) for at, layer in enumerate(book.layers)
                         if layer[0] == "note"]
                self.assertEqual(deeds[1:], words)


class ManyForms(unittest.TestCase):
    def test_there_and_back(self):
        asked = 0
        for web, nodes in all_nodes(8, 6, seed=8):
            for node in nodes:
                form = form_or_none(web, node)
                if form is None:
                    continue
                before = list(web)
                term = term_of(web, form)
                self.assertEqual(list(web)[:len(before)], before)
                before = list(web)
                self.assertEqual(part_of(web, web.book.size + 1, term), form)
                self.assertEqual(list(web), before)
                # The term has the form, and its own term is the same node.
                self.assertEqual(form_of(web, term), form)
                self.assertEqual(term_of(web, form_of(web, term)), term)
                for body in form:
                    for end in ends_within(body):
                        asked += end[0] == "ask"
                        self.assertEqual(end_of(web, end_term(web, end)), end)
        self.assertGreater(asked, 300)

    def test_bodies_and_parts(self):
        for web, nodes in all_nodes(6, 5, seed=9):
            for node in nodes:
                for body in form_or_none(web, node) or ():
                    self.assertEqual(body_of(web, body_term(web, body)), body)
                    for end in ends_within(body):
                        for part in end[4] if end[0] == "ask" else ():
                            term = part_term(web, end[1], part)
                            self.assertEqual(part_of(web, end[1], term), part)

    def test_any_tree_over_ends(self):
        compared = 0
        for at, book in enumerate(books()):
            if book.kernel != "none":
                made = Nodes(book, at)
                for _ in range(6):
                    tree = self.tree(made, 4)
                    body = self.body(tree, book.kernel)
                    compared += 1
                    if body is None:
                        with self.assertRaises(TooLarge):
                            body_of(made.web, self.node(made.web, tree))
                    else:
                        node = self.node(made.web, tree)
                        self.assertEqual(body_of(made.web, node), normal.told(body))
        self.assertGreater(compared, 200)

    def tree(self, made, depth):
        """A random tree of choices and draws over ends."""
        free = [deed for deed in made.inner if deed[0] in ("choose", "draw")]
        if depth == 0 or made.random.random() < 0.2:
            form = None
            while form is None:
                form = form_or_none(made.web, made.node(2))
            ends = [end for body in form for end in ends_within(body)]
            return ("end", made.random.choice(ends))
        return (made.random.choice(free), self.tree(made, depth - 1), self.tree(made, depth - 1))

    def node(self, web, tree):
        if tree[0] == "end":
            return end_term(web, tree[1])
        return web.make(tree[0], [self.node(web, tree[1]), self.node(web, tree[2])])

    def body(self, tree, kernel):
        """The body of a tree, or None if it is too large."""
        if tree[0] == "end":
            return [{tree[1]: normal.Fraction(1)}]
        one, other = self.body(tree[1], kernel), self.body(tree[2], kernel)
        if one is None or other is None:
            return None
        try:
            if tree[0][0] == "choose":
                return normal.settled(kernel, one + other)
            return normal.drawn(kernel, tree[0][2], tree[0][3], one, other)
        except normal.TooMany:
            return None


class TwelveAsks(unittest.TestCase):
    def test_within_each_other(self):
        for kernel in KERNELS:
            book = Book(kernel, [("note", "m", SIGNS), ("outside", "o", (1,)), ("note", "n", LEFT),
                                 ("cell", "c", 2), ("fail", "f", 1)])
            web = Web(book)
            node = node_of(web, "ret 0\nfail 5 0\nget 4 : 0 1")
            for at in range(12):
                node = web.make(("note", 3, at % 3), [web.make(("ask", 2, 0), [node])])
                node = web.make(("note", 1, 1), [node])
            form = form_of(web, node)
            self.assertEqual(form_from_ends(web, node), form)
            term = term_of(web, form)
            self.assertEqual(part_of(web, 6, term), form)
            self.assertEqual(form_of(web, term), form)
            seven, eight = node_of(web, "ret 7\nnote 3 2 : 0"), node_of(web, "ret 8\nput 4 0 : 0")
            told = grafted(web, node, {"0": seven})
            self.assertEqual(then(book, form, {"0": form_of(web, seven)}), form_of(web, told))
            told = caught(web, node, 5, 0, eight)
            self.assertEqual(rescue(book, form, 5, 0, form_of(web, eight)), form_of(web, told))


class Kernels(unittest.TestCase):
    def test_each_kernel(self):
        for kernel in KERNELS:
            book = Book(kernel, BOOK.layers)
            web = Web(book)
            text = ("ret 0\nask 5 1 : 0 0\nfail 4 1\nput 1 1 : 2\nnote 3 1 : 3\nlook 2 : 1 4 0\n"
                    "get 1 : 5 1")
            form = form_of(web, node_of(web, text))
            term = term_of(web, form)
            self.assertEqual(part_of(web, 6, term), form)
            self.assertEqual(form_of(web, term), form)


if __name__ == "__main__":
    unittest.main()
