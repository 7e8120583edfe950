import unittest
from math import gcd

from besideandthrough.books import Book
from besideandthrough.errors import WebError
from besideandthrough.webs import Web, copied, reached, ways_on
from tests.helpers import KERNELS, WIDE, wide_book


def web_with(*nodes, book=None):
    """Returns a web with the nodes, which are pairs of a deed and children."""
    web = Web(book or wide_book())
    for deed, children in nodes:
        web.make(deed, children)
    return web


class Deeds(unittest.TestCase):
    def check(self, book, told):
        for deed, many in told.items():
            self.assertEqual(ways_on(book, deed), many, deed)

    def test_deeds_of_the_layers(self):
        self.check(wide_book(), {
            ("fail", 5, 0): 0, ("fail", 5, 1): 0, ("fail", 5, 2): -1, ("fail", 5, -1): -1,
            ("get", 2): 2, ("look", 1): 3,
            ("put", 2, 0): 1, ("put", 2, 1): 1, ("put", 2, 2): -1, ("put", 2, -1): -1,
            ("note", 3, 0): 1, ("note", 3, 2): 1, ("note", 3, 3): -1, ("note", 3, -1): -1,
            ("ask", 4, 0): 3, ("ask", 4, 1): 1, ("ask", 4, 2): -1, ("ask", 4, -1): -1,
        })

    def test_a_deed_needs_a_layer_of_its_sort(self):
        own = {"fail": 5, "get": 2, "put": 2, "look": 1, "note": 3, "ask": 4}
        for word, layer in own.items():
            for number in range(-2, 8):
                rest = () if word in ("get", "look") else (0,)
                told = ways_on(wide_book(), (word, number, *rest))
                self.assertEqual(told == -1, number != layer, (word, number))

    def test_sizes_of_ways(self):
        book = Book("none", [("cell", "c", 3), ("setting", "s", 2), ("outside", "o", (2,))])
        self.check(book, {("get", 1): 3, ("look", 2): 2, ("ask", 3, 0): 2, ("ask", 3, 1): -1})

    def test_results(self):
        self.check(wide_book(), {
            ("ret", "0"): 0, ("ret", "999"): 0, ("ret", "(0 (1 2))"): 0,
            ("ret", "((((0 1) 2) 3) 4)"): 0, ("ret", "(((((0 1) 2) 3) 4) 5)"): -1,
            ("ret", ""): -1, ("ret", "00"): -1, ("ret", "1000"): -1, ("ret", "(0  1)"): -1,
            ("ret", "0\n"): -1, ("ret", "x"): -1, ("ret", "0 1"): -1,
        })

    def test_pieces(self):
        pieces = {"none": (0, 0), "choose": (1, 0), "draw": (0, 1), "spread": (1, 1),
                  "twochoose": (2, 0), "twodraw": (0, 2), "mixed": (1, 1)}
        for kernel in KERNELS:
            for piece in range(-1, 4):
                choosing, drawing = pieces[kernel]
                self.check(Book(kernel, ()), {
                    ("choose", piece): 2 if 0 <= piece < choosing else -1,
                    ("draw", piece, 1, 2): 2 if 0 <= piece < drawing else -1,
                })

    def test_shares(self):
        for kernel, piece in (("draw", 0), ("spread", 0), ("twodraw", 0), ("twodraw", 1),
                              ("mixed", 0)):
            most = 6 if kernel == "mixed" or piece == 1 else 12
            for a in range(-1, 13):
                for b in range(-1, 13):
                    good = 1 <= a < b <= most and gcd(a, b) == 1
                    self.check(Book(kernel, ()), {("draw", piece, a, b): 2 if good else -1})

    def test_great_shares(self):
        den = 10 ** 30
        self.check(Book("twodraw", ()), {
            ("draw", 0, 1, den): 2, ("draw", 0, den - 1, den): 2, ("draw", 0, den, den): -1,
            ("draw", 0, 2, den): -1, ("draw", 1, 1, 6): 2, ("draw", 1, 1, 7): -1,
        })

    def test_wrong_words_and_wrong_numbers_of_parts(self):
        for deed in (("odd",), ("odd", 1), ("cell", 2), ("", 2), ("num", 0), ("ret",),
                     ("ret", "0", 0), ("fail",), ("fail", 5), ("fail", 5, 0, 0), ("choose",),
                     ("choose", 0, 0), ("draw", 0), ("draw", 0, 1), ("draw", 0, 1, 2, 3),
                     ("get",), ("get", 2, 0), ("put", 2), ("put", 2, 0, 0), ("look",),
                     ("look", 1, 0), ("note", 3), ("note", 3, 0, 0), ("ask", 4), ("ask", 4, 0, 0)):
            self.assertEqual(ways_on(wide_book(), deed), -1, deed)


class Making(unittest.TestCase):
    def setUp(self):
        self.web = Web(wide_book())
        self.zero = self.web.make(("ret", "0"), ())
        self.one = self.web.make(("ret", "1"), [])

    def test_numbers_and_nodes(self):
        self.assertEqual((self.zero, self.one), (0, 1))
        both = self.web.make(("choose", 0), [0, 1])
        same = self.web.make(("choose", 0), (1, 1))
        self.assertEqual((both, same), (2, 3))
        self.assertEqual(list(self.web), [
            (("ret", "0"), ()), (("ret", "1"), ()),
            (("choose", 0), (0, 1)), (("choose", 0), (1, 1))])
        self.assertEqual(self.web.deed_of(2), ("choose", 0))
        self.assertEqual(self.web.children_of(2), (0, 1))

    def test_a_new_web_has_no_nodes(self):
        book = wide_book()
        web = Web(book)
        self.assertEqual(list(web), [])
        self.assertIs(web.book, book)

    def test_an_equal_node_twice(self):
        many = self.web.make(("get", 2), [0, 1])
        self.assertEqual(self.web.make(("get", 2), (0, 1)), many)
        self.assertEqual(self.web.make(("ret", "0"), ()), 0)
        self.assertEqual(len(list(self.web)), 3)
        self.assertEqual(self.web.make(("get", 2), (1, 0)), 3)

    def test_tree_sizes(self):
        a = self.web.make(("choose", 0), [0, 1])
        b = self.web.make(("ask", 4, 0), [a, a, 0])
        c = self.web.make(("put", 2, 1), [b])
        self.assertEqual([self.web.size_of(node) for node in (0, a, b, c)], [1, 3, 8, 9])

    def test_great_tree_sizes(self):
        node = 0
        for _ in range(3000):
            node = self.web.make(("choose", 0), [node, node])
        self.assertEqual(self.web.size_of(node), 2 ** 3001 - 1)

    def refused(self, deed, children):
        before = list(self.web)
        with self.assertRaises(WebError):
            self.web.make(deed, children)
        self.assertEqual(list(self.web), before)
        self.assertEqual(self.web.make(("ret", "2"), ()), len(before))
        self.setUp()

    def test_deeds_that_are_none(self):
        for deed in (("ret", "x"), ("odd", 1), ("fail", 5, 2), ("fail", 4, 0)):
            self.refused(deed, [])
        self.refused(("choose", 1), [0, 1])
        self.refused(("put", 2, 2), [0])
        self.refused(("draw", 0, 2, 4), [0, 1])

    def test_too_many_and_too_few_children(self):
        for deed, ways in ((("ret", "0"), 0), (("fail", 5, 0), 0), (("choose", 0), 2),
                           (("draw", 0, 1, 2), 2), (("get", 2), 2), (("put", 2, 1), 1),
                           (("look", 1), 3), (("note", 3, 1), 1), (("ask", 4, 0), 3),
                           (("ask", 4, 1), 1)):
            self.web.make(deed, [0] * ways)
            for many in range(5):
                if many != ways:
                    self.setUp()
                    self.refused(deed, [0] * many)

    def test_children_that_are_no_nodes(self):
        for child in (-1, -2, 2, 3, 10 ** 9):
            self.refused(("put", 2, 1), [child])
            self.refused(("choose", 0), [0, child])
            self.refused(("choose", 0), [child, 0])

    def test_later_changes_of_the_children_have_no_effect(self):
        children = [0, 1]
        node = self.web.make(("choose", 0), children)
        self.assertEqual(children, [0, 1])
        children[0] = 1
        self.assertEqual(self.web.children_of(node), (0, 1))


class Parts(unittest.TestCase):
    def setUp(self):
        self.web = web_with(
            (("ret", "0"), ()),
            (("ret", "1"), ()),
            (("choose", 0), (1, 0)),
            (("ret", "2"), ()),
            (("put", 2, 0), (2,)),
            (("choose", 0), (4, 2)),
            (("look", 1), (5, 3, 2)),
        )

    def test_the_order(self):
        self.assertEqual(reached(self.web, 6), [1, 0, 2, 4, 5, 3, 6])
        self.assertEqual(reached(self.web, 4), [1, 0, 2, 4])
        self.assertEqual(reached(self.web, 3), [3])

    def test_each_node_once(self):
        web = web_with((("ret", "0"), ()), (("choose", 0), (0, 0)), (("choose", 0), (1, 0)),
                       (("choose", 0), (0, 1)))
        self.assertEqual(reached(web, 2), [0, 1, 2])
        self.assertEqual(reached(web, 3), [0, 1, 3])

    def test_against_the_words_of_point_16(self):
        def slowly(web, root):
            found = []
            for child in web.children_of(root):
                found += [node for node in slowly(web, child) if node not in found]
            return found + [root]

        web = web_with((("ret", "0"), ()), (("ret", "1"), ()))
        for seed in range(60):
            many = len(list(web))
            web.make(("choose", 0), [seed * 7 % many, many - 1 - seed * 5 % many])
        for root in range(len(list(web))):
            self.assertEqual(reached(web, root), slowly(web, root))

    def test_a_deep_part(self):
        node = 0
        for at in range(5000):
            node = self.web.make(("put", 2, at % 2), [node])
        self.assertEqual(len(reached(self.web, node)), 5001)


class Copies(unittest.TestCase):
    def setUp(self):
        self.source = web_with(
            (("ret", "0"), ()), (("ret", "1"), ()), (("choose", 0), (1, 0)), (("ret", "2"), ()),
            (("put", 2, 0), (2,)))

    def test_into_an_empty_web(self):
        web = Web(Book("spread", list(WIDE)))
        self.assertEqual(copied(web, self.source, 4), 3)
        self.assertEqual(list(web), [
            (("ret", "1"), ()), (("ret", "0"), ()), (("choose", 0), (0, 1)),
            (("put", 2, 0), (2,))])
        self.assertEqual(len(list(self.source)), 5)

    def test_into_a_web_with_nodes(self):
        web = web_with((("ret", "2"), ()), (("ret", "0"), ()))
        self.assertEqual(copied(web, self.source, 2), 3)
        self.assertEqual(list(web)[2:], [(("ret", "1"), ()), (("choose", 0), (2, 1))])
        self.assertEqual(copied(web, self.source, 2), 3)
        self.assertEqual(copied(web, self.source, 3), 0)

    def test_into_the_same_web(self):
        self.assertEqual(copied(self.source, self.source, 4), 4)
        self.assertEqual(len(list(self.source)), 5)

    def test_into_a_web_of_another_book(self):
        for book in (Book("mixed", WIDE), Book("spread", WIDE[:4]), Book("spread", ())):
            web = web_with((("ret", "7"), ()), book=book)
            with self.assertRaises(WebError):
                copied(web, self.source, 0)
            self.assertEqual(list(web), [(("ret", "7"), ())])

    def test_a_deep_part(self):
        node = 0
        for at in range(5000):
            node = self.source.make(("put", 2, at % 2), [node])
        web = Web(wide_book())
        self.assertEqual(web.size_of(copied(web, self.source, node)), 5001)


if __name__ == "__main__":
    unittest.main()
