import itertools
import unittest
from fractions import Fraction

from besideandthrough.books import Book, choices, draws
from besideandthrough.errors import TooLarge
from besideandthrough.forms import form_of
from besideandthrough.steps import is_step, may_swap, members_of, shares_of
from besideandthrough.webs import Web
from tests.helpers import KERNELS, LEFT, SIGNS, node_of
from tests.nodes import LAYERS, all_nodes, books, deeds_of

WORDS = ("idle", "corner", "regot", "putput", "putget", "unit", "notes", "lot", "share", "spread",
         "swap")
LAYERED = (("cell", "c", 2), ("setting", "s", 2), ("note", "n", LEFT), ("fail", "f", 2),
           ("cell", "d", 2))


def layer_of(deed):
    return 0 if deed[0] in ("choose", "draw") else deed[1]


def changes_places(book, f, g):
    """The words of point [86]."""
    if f[0] == "ret" or g[0] == "ret":
        return False
    if book.kernel in ("twochoose", "twodraw", "mixed"):
        free = ("choose", "draw")
        if f[0] in free and g[0] in free and (f[0] != g[0] or f[1] != g[1]):
            return True
    if layer_of(f) == layer_of(g):
        return False
    higher = book.layers[max(layer_of(f), layer_of(g)) - 1][0]
    return higher in ("cell", "setting", "note")


def members(web, piece, node):
    if web.deed_of(node) != ("choose", piece):
        return {node}
    one, other = web.children_of(node)
    return members(web, piece, one) | members(web, piece, other)


def shares(web, piece, node):
    deed = web.deed_of(node)
    if deed[:2] != ("draw", piece):
        return {node: Fraction(1)}
    found = {}
    for child, share in zip(web.children_of(node), (Fraction(deed[2], deed[3]),
                                                    1 - Fraction(deed[2], deed[3]))):
        for each, part in shares(web, piece, child).items():
            found[each] = found.get(each, 0) + share * part
    return found


class Stepper:
    """Makes all nodes to which a step leads from a node, for all axioms but lot and share."""

    def __init__(self, web):
        self.web = web

    def steps(self, a):
        deed = self.web.deed_of(a)
        children = self.web.children_of(a)
        if deed[0] in ("get", "look"):
            yield from self.reads(deed, children)
        if deed[0] in ("put", "note"):
            yield from self.writes(deed, children[0])
        if children:
            yield from self.through(deed, children)

    def reads(self, deed, children):
        if len(set(children)) == 1:
            yield "idle", children[0]
        yield from self.shortened("corner", deed, children, lambda k: (deed, k))
        if deed[0] == "get":
            yield from self.shortened("regot", deed, children, lambda k: (("put", deed[1], k), 0))

    def shortened(self, word, deed, children, told):
        """All rows of children in which some stand for those behind them."""
        rows = []
        for k, child in enumerate(children):
            rows.append([child])
            behind, at = told(k)
            if self.web.deed_of(child) == behind:
                rows[-1].append(self.web.children_of(child)[at])
        for row in itertools.product(*rows):
            yield word, self.web.make(deed, row)

    def writes(self, deed, child):
        behind = self.web.deed_of(child)
        if deed[0] == "put":
            if behind[:2] == deed[:2]:
                yield "putput", child
            if behind == ("get", deed[1]):
                yield "putget", self.web.make(deed, [self.web.children_of(child)[deed[2]]])
            return
        if deed[2] == 0:
            yield "unit", child
        if behind[:2] == deed[:2]:
            table = self.web.book.layers[deed[1] - 1][2]
            product = ("note", deed[1], table[deed[2]][behind[2]])
            yield "notes", self.web.make(product, self.web.children_of(child))

    def through(self, deed, children):
        web = self.web
        behind = [web.deed_of(child) for child in children]
        if web.book.kernel == "spread" and deed[0] == "draw" and behind[1][0] == "choose":
            x, y = children
            row = [web.make(deed, [x, each]) for each in web.children_of(y)]
            yield "spread", web.make(behind[1], row)
        if len(set(behind)) == 1 and changes_places(web.book, deed, behind[0]):
            if not web.children_of(children[0]):
                yield "swap", children[0]
            else:
                columns = zip(*[web.children_of(child) for child in children])
                yield "swap", web.make(behind[0], [web.make(deed, column) for column in columns])


def some_trees(web):
    """Nodes over few deeds in which each axiom has something to do."""
    zero, one = web.make(("ret", "0"), ()), web.make(("ret", "1"), ())
    found = [zero, one]
    deeds = [deed for deed in deeds_of(web.book)
             if deed[0] != "ret" and deed[2:] not in ((1, 3), (1, 6), (2, 5))]
    for deed in deeds:
        many = ways(web.book, deed)
        if many == 0:
            found.append(web.make(deed, ()))
        else:
            found.append(web.make(deed, [zero] * many))
            found.append(web.make(deed, ([zero, one, one])[:many]))
    inner = list(found)
    for deed in deeds:
        many = ways(web.book, deed)
        for node in inner if many else ():
            if node > 1:
                found.append(web.make(deed, [node] * many))
                found.append(web.make(deed, ([zero, node, node])[:many]))
                found.append(web.make(deed, ([node, zero, one])[:many]))
    return sorted(set(found))


def ways(book, deed):
    if deed[0] in ("get", "look"):
        return book.layers[deed[1] - 1][2]
    if deed[0] == "ask":
        return book.layers[deed[1] - 1][2][deed[2]]
    return {"ret": 0, "fail": 0, "choose": 2, "draw": 2, "put": 1, "note": 1}[deed[0]]


class Swapping(unittest.TestCase):
    def test_by_the_words_of_the_document(self):
        for book in [*books(), *[Book(kernel, LAYERED) for kernel in KERNELS]]:
            for one in deeds_of(book):
                for other in deeds_of(book):
                    found = may_swap(book, one, other)
                    self.assertIs(found, changes_places(book, one, other))
                    self.assertIs(may_swap(book, other, one), found)

    def test_layers(self):
        book = Book("choose", LAYERED)
        for one, other, told in (
                (("get", 1), ("put", 5, 0), True), (("get", 1), ("put", 1, 0), False),
                (("get", 1), ("get", 1), False), (("look", 2), ("get", 1), True),
                (("note", 3, 1), ("note", 3, 2), False), (("note", 3, 1), ("get", 1), True),
                (("fail", 4, 0), ("get", 1), False), (("fail", 4, 0), ("get", 5), True),
                (("fail", 4, 0), ("fail", 4, 1), False), (("choose", 0), ("get", 1), True),
                (("choose", 0), ("fail", 4, 0), False), (("choose", 0), ("choose", 0), False),
                (("ret", "0"), ("get", 1), False), (("ret", "0"), ("ret", "0"), False)):
            self.assertIs(may_swap(book, one, other), told)
            self.assertIs(may_swap(book, other, one), told)

    def test_pieces(self):
        half, third = ("draw", 0, 1, 2), ("draw", 0, 1, 3)
        self.assertIs(may_swap(Book("spread", ()), ("choose", 0), half), False)
        self.assertIs(may_swap(Book("mixed", ()), ("choose", 0), half), True)
        self.assertIs(may_swap(Book("mixed", ()), third, half), False)
        self.assertIs(may_swap(Book("mixed", ()), ("choose", 0), ("choose", 0)), False)
        self.assertIs(may_swap(Book("twodraw", ()), half, ("draw", 1, 1, 2)), True)
        self.assertIs(may_swap(Book("twodraw", ()), half, third), False)
        self.assertIs(may_swap(Book("twochoose", ()), ("choose", 0), ("choose", 1)), True)
        self.assertIs(may_swap(Book("twochoose", ()), ("choose", 1), ("choose", 1)), False)

    def test_asks(self):
        book = Book("draw", [("cell", "c", 2), ("outside", "o", (2,)), ("note", "n", SIGNS),
                             ("outside", "p", (1,))])
        ask, other = ("ask", 2, 0), ("ask", 4, 0)
        for deed, told in ((("get", 1), False), (("put", 1, 0), False), (("note", 3, 1), True),
                           (("draw", 0, 1, 2), False), (other, False), (ask, False)):
            self.assertIs(may_swap(book, ask, deed), told)
            self.assertIs(may_swap(book, deed, ask), told)


class MembersAndShares(unittest.TestCase):
    def test_members(self):
        web = Web(Book("twochoose", ()))
        node = node_of(web, "ret 0\nret 1\nret 2\nchoose 0 : 2 0\nchoose 1 : 1 0\nchoose 0 : 4 3\n"
                            "choose 0 : 3 5")
        self.assertEqual(members_of(web, 0, node), [0, 2, 4])
        self.assertEqual(members_of(web, 1, node), [node])
        self.assertEqual(members_of(web, 1, 4), [0, 1])
        self.assertEqual(members_of(web, 0, 1), [1])

    def test_shares(self):
        web = Web(Book("twodraw", ()))
        node = node_of(web, "ret 0\nret 1\nret 2\ndraw 0 1 3 : 0 1\ndraw 1 1 2 : 0 1\n"
                            "draw 0 1 2 : 3 4\ndraw 0 2 5 : 0 5")
        self.assertEqual(shares_of(web, 0, node), {0: (1, 2), 1: (1, 5), 4: (3, 10)})
        self.assertEqual(shares_of(web, 1, node), {node: (1, 1)})
        self.assertEqual(shares_of(web, 1, 4), {0: (1, 2), 1: (1, 2)})
        self.assertEqual(shares_of(web, 0, 2), {2: (1, 1)})

    def test_pieces_that_the_kernel_does_not_have(self):
        for kernel in KERNELS:
            web = Web(Book(kernel, ()))
            nodes = [web.make(("ret", "0"), ())]
            nodes += [web.make(("choose", piece), [0, 0]) for piece in range(choices(kernel))]
            nodes += [web.make(("draw", piece, 1, 2), [0, 0]) for piece in range(draws(kernel))]
            for node in nodes:
                self.assertEqual(members_of(web, choices(kernel), node), [node])
                self.assertEqual(members_of(web, 7, node), [node])
                self.assertEqual(shares_of(web, draws(kernel), node), {node: (1, 1)})
                self.assertEqual(shares_of(web, 7, node), {node: (1, 1)})

    def test_large_trees_of_few_nodes(self):
        web = Web(Book("spread", ()))
        node = node_of(web, "ret 0\nret 1\nchoose 0 : 0 1")
        for _ in range(2000):
            node = web.make(("choose", 0), [node, node])
        self.assertEqual(members_of(web, 0, node), [0, 1])
        node = node_of(web, "ret 0\nret 1\ndraw 0 1 3 : 0 1")
        for _ in range(200):
            node = web.make(("draw", 0, 1, 2), [node, node])
        self.assertEqual(shares_of(web, 0, node), {0: (1, 3), 1: (2, 3)})

    def test_many(self):
        for web, nodes in all_nodes(15, 6, seed=10):
            for node in nodes:
                for piece in (0, 1):
                    self.assertEqual(members_of(web, piece, node),
                                     sorted(members(web, piece, node)))
                    told = {each: (share.numerator, share.denominator)
                            for each, share in shares(web, piece, node).items()}
                    self.assertEqual(shares_of(web, piece, node), told)


class Axioms(unittest.TestCase):
    def setUp(self):
        self.web = Web(Book("spread", LAYERED))

    def step(self, word, a, b, there=True, back=False, web=None):
        """Judges a step from the node of one text to that of another, and the way back."""
        web = web or self.web
        one, other = node_of(web, a), node_of(web, b)
        before = list(web)
        self.assertIs(is_step(web, word, one, other), there)
        self.assertIs(is_step(web, word, other, one), back)
        self.assertEqual(list(web), before)

    def test_idle(self):
        self.step("idle", "ret 0\nget 1 : 0 0", "ret 0")
        self.step("idle", "ret 0\nlook 2 : 0 0", "ret 0")
        self.step("idle", "ret 0\nput 1 0 : 0\nget 1 : 1 1", "ret 0\nput 1 0 : 0")
        self.step("idle", "ret 0\nret 1\nget 1 : 0 1", "ret 0", False)
        self.step("idle", "ret 0\nret 1\nget 1 : 0 1", "ret 1", False)
        self.step("idle", "ret 0\nget 1 : 0 0", "ret 1", False)
        self.step("idle", "ret 0\nchoose 0 : 0 0", "ret 0", False)
        self.step("idle", "ret 0\nput 1 0 : 0", "ret 0", False)
        self.step("idle", "ret 0", "ret 0", False)

    def test_corner(self):
        deep = "ret 0\nret 1\nret 2\nret 3\nget 1 : 0 1\nget 1 : 2 3\n"
        for pair in ("0 3", "0 5", "4 3"):
            self.step("corner", deep + "get 1 : 4 5", deep + f"get 1 : {pair}")
        # Where nothing is shortened there are steps in both directions.
        self.step("corner", deep + "get 1 : 4 5", deep + "get 1 : 4 5", True, True)
        self.step("corner", "ret 0", "ret 0", False)
        for pair in ("1 3", "0 2", "1 5", "4 2", "3 0", "5 4"):
            self.step("corner", deep + "get 1 : 4 5", deep + f"get 1 : {pair}", False)
        looks = deep.replace("get 1", "look 2")
        self.step("corner", looks + "look 2 : 4 5", looks + "look 2 : 0 3")
        # Another layer, or another deed, is no corner.
        self.step("corner", deep + "get 5 : 4 5", deep + "get 5 : 0 3", False)
        self.step("corner", deep + "get 5 : 4 5", deep + "get 1 : 4 5", False)
        self.step("corner", "ret 0\nret 1\nchoose 0 : 0 1\nchoose 0 : 2 2",
                  "ret 0\nret 1\nchoose 0 : 0 1", False)

    def test_regot(self):
        puts = "ret 0\nret 1\nput 1 0 : 0\nput 1 1 : 1\n"
        for pair in ("0 1", "2 1", "0 3"):
            self.step("regot", puts + "get 1 : 2 3", puts + f"get 1 : {pair}")
        self.step("regot", puts + "get 1 : 2 3", puts + "get 1 : 2 3", True, True)
        self.step("regot", puts + "get 1 : 3 2", puts + "get 1 : 1 0", False)
        self.step("regot", puts + "get 1 : 2 3", puts + "get 1 : 1 0", False)
        self.step("regot", puts + "get 5 : 2 3", puts + "get 5 : 0 1", False)
        self.step("regot", puts + "look 2 : 2 3", puts + "look 2 : 0 1", False)
        self.step("regot", puts + "look 2 : 2 3", puts + "look 2 : 2 3", False)

    def test_putput(self):
        self.step("putput", "ret 0\nput 1 1 : 0\nput 1 0 : 1", "ret 0\nput 1 1 : 0")
        self.step("putput", "ret 0\nput 1 1 : 0\nput 1 1 : 1", "ret 0\nput 1 1 : 0")
        self.step("putput", "ret 0\nput 5 1 : 0\nput 1 0 : 1", "ret 0\nput 5 1 : 0", False)
        self.step("putput", "ret 0\nput 1 1 : 0", "ret 0", False)
        self.step("putput", "ret 0\nput 1 1 : 0\nput 1 0 : 1", "ret 0\nput 1 0 : 0", False)
        self.step("putput", "ret 0\nnote 3 1 : 0\nnote 3 2 : 1", "ret 0\nnote 3 1 : 0", False)

    def test_putget(self):
        read = "ret 0\nret 1\nget 1 : 0 1\n"
        self.step("putget", read + "put 1 0 : 2", "ret 0\nput 1 0 : 0")
        self.step("putget", read + "put 1 1 : 2", "ret 1\nput 1 1 : 0")
        self.step("putget", read + "put 1 0 : 2", "ret 1\nput 1 0 : 0", False)
        self.step("putget", read + "put 1 0 : 2", "ret 0\nput 1 1 : 0", False)
        self.step("putget", read + "put 5 0 : 2", "ret 0\nput 5 0 : 0", False)
        self.step("putget", read + "put 1 0 : 2", "ret 0", False)
        self.step("putget", "ret 0\nret 1\nlook 2 : 0 1\nput 1 0 : 2", "ret 0\nput 1 0 : 0", False)
        self.step("putget", "ret 0\nput 1 0 : 0", "ret 0\nput 1 0 : 0", False)

    def test_unit(self):
        self.step("unit", "ret 0\nnote 3 0 : 0", "ret 0")
        self.step("unit", "ret 0\nnote 3 1 : 0\nnote 3 0 : 1", "ret 0\nnote 3 1 : 0")
        self.step("unit", "ret 0\nnote 3 1 : 0", "ret 0", False)
        self.step("unit", "ret 0\nput 1 0 : 0", "ret 0", False)
        self.step("unit", "ret 0\nnote 3 0 : 0", "ret 1", False)
        self.step("unit", "ret 0", "ret 0", False)

    def test_notes(self):
        for m, l, p in ((1, 2, 1), (2, 1, 2), (0, 2, 2), (2, 0, 2), (0, 0, 0)):
            text = f"ret 0\nnote 3 {l} : 0\nnote 3 {m} : 1"
            self.step("notes", text, f"ret 0\nnote 3 {p} : 0")
            for other in range(3):
                if other != p:
                    self.step("notes", text, f"ret 0\nnote 3 {other} : 0", False)
            self.step("notes", text, f"ret 1\nnote 3 {p} : 0", False)
        self.step("notes", "ret 0\nnote 3 1 : 0", "ret 0\nnote 3 1 : 0", False)
        book = Book("none", [("note", "m", SIGNS), ("note", "n", SIGNS)])
        self.step("notes", "ret 0\nnote 1 1 : 0\nnote 2 0 : 1", "ret 0\nnote 2 1 : 0", False,
                  web=Web(book))

    def test_lot(self):
        for one, other, told in (
                ("ret 0\nchoose 0 : 0 0", "ret 0", True),
                ("ret 0\nret 1\nchoose 0 : 0 1", "ret 0\nret 1\nchoose 0 : 1 0", True),
                ("ret 0\nret 1\nret 2\nchoose 0 : 0 1\nchoose 0 : 3 2",
                 "ret 0\nret 1\nret 2\nchoose 0 : 1 2\nchoose 0 : 0 3", True),
                ("ret 0", "ret 0", True), ("ret 0", "ret 1", False),
                ("ret 0\nret 1\nchoose 0 : 0 1", "ret 0", False),
                ("ret 0\nput 1 0 : 0", "ret 0", False)):
            self.step("lot", one, other, told, told)
        for kernel in KERNELS:
            web = Web(Book(kernel, ()))
            self.step("lot", "ret 0", "ret 0", choices(kernel) > 0, choices(kernel) > 0, web)
        web = Web(Book("twochoose", ()))
        for piece, other in ((0, 0), (1, 1), (0, 1), (1, 0)):
            self.step("lot", f"ret 0\nret 1\nchoose {piece} : 0 1",
                      f"ret 0\nret 1\nchoose {other} : 1 0", piece == other, piece == other, web)
        # One piece at a time.
        self.step("lot", "ret 0\nchoose 1 : 0 0\nchoose 0 : 1 1", "ret 0", False, False, web)
        self.step("lot", "ret 0\nchoose 1 : 0 0\nchoose 0 : 1 1", "ret 0\nchoose 1 : 0 0",
                  True, True, web)

    def test_share(self):
        for one, other, told in (
                ("ret 0\ndraw 0 1 3 : 0 0", "ret 0", True),
                ("ret 0\nret 1\ndraw 0 1 3 : 0 1", "ret 0\nret 1\ndraw 0 2 3 : 1 0", True),
                ("ret 0\nret 1\ndraw 0 1 3 : 0 1", "ret 0\nret 1\ndraw 0 1 3 : 1 0", False),
                ("ret 0\nret 1\ndraw 0 1 2 : 0 1", "ret 0\nret 1\ndraw 0 1 2 : 1 0", True),
                ("ret 0\nret 1\nret 2\ndraw 0 1 2 : 0 1\ndraw 0 1 3 : 2 3",
                 "ret 0\nret 1\nret 2\ndraw 0 1 2 : 0 2\ndraw 0 2 3 : 3 1", True),
                ("ret 0\nret 1\ndraw 0 1 3 : 0 1", "ret 0\nret 1\ndraw 0 1 2 : 0 1", False),
                ("ret 0", "ret 0", True), ("ret 0", "ret 1", False)):
            self.step("share", one, other, told, told)
        for kernel in KERNELS:
            web = Web(Book(kernel, ()))
            self.step("share", "ret 0", "ret 0", draws(kernel) > 0, draws(kernel) > 0, web)
        web = Web(Book("twodraw", ()))
        for piece, other in ((0, 0), (1, 1), (0, 1), (1, 0)):
            told = piece == other
            self.step("share", f"ret 0\nret 1\ndraw {piece} 1 3 : 0 1",
                      f"ret 0\nret 1\ndraw {other} 2 3 : 1 0", told, told, web)

    def test_spread(self):
        one = "ret 0\nret 1\nret 2\nchoose 0 : 1 2\ndraw 0 1 3 : 0 3"
        other = "ret 0\nret 1\nret 2\ndraw 0 1 3 : 0 1\ndraw 0 1 3 : 0 2\nchoose 0 : 3 4"
        self.step("spread", one, other)
        self.step("spread", one, other.replace("choose 0 : 3 4", "choose 0 : 4 3"), False)
        self.step("spread", one, other.replace("draw 0 1 3 : 0 2", "draw 0 2 3 : 0 2"), False)
        self.step("spread", one, other.replace("draw 0 1 3 : 0 2", "draw 0 1 3 : 1 2"), False)
        # Only the second child is spread.
        self.step("spread", one.replace(": 0 3", ": 3 0"),
                  "ret 0\nret 1\nret 2\ndraw 0 1 3 : 1 0\ndraw 0 1 3 : 2 0\nchoose 0 : 3 4", False)
        self.step("spread", "ret 0\nret 1\ndraw 0 1 3 : 0 1", "ret 0\nret 1\nchoose 0 : 0 1", False)
        both = "ret 0\nret 1\nchoose 0 : 0 1\ndraw 0 1 2 : 2 2"
        self.step("spread", both, "ret 0\nret 1\nchoose 0 : 0 1\ndraw 0 1 2 : 2 0\n"
                                  "draw 0 1 2 : 2 1\nchoose 0 : 3 4")
        self.step("spread", one, other, False, False, Web(Book("mixed", ())))

    def test_swap(self):
        self.step("swap", "ret 0\nput 5 1 : 0\nput 1 0 : 1", "ret 0\nput 1 0 : 0\nput 5 1 : 1",
                  True, True)
        self.step("swap", "ret 0\nret 1\nput 5 1 : 0\nput 5 1 : 1\nget 1 : 2 3",
                  "ret 0\nret 1\nget 1 : 0 1\nput 5 1 : 2", True, True)
        # The children stand at the place of the way that they are for.
        self.step("swap", "ret 0\nret 1\nret 2\nret 3\nget 1 : 0 1\nget 1 : 2 3\nlook 2 : 4 5",
                  "ret 0\nret 1\nret 2\nret 3\nlook 2 : 0 2\nlook 2 : 1 3\nget 1 : 4 5", True, True)
        self.step("swap", "ret 0\nret 1\nret 2\nret 3\nget 1 : 0 1\nget 1 : 2 3\nlook 2 : 4 5",
                  "ret 0\nret 1\nret 2\nret 3\nlook 2 : 0 1\nlook 2 : 2 3\nget 1 : 4 5", False)
        self.step("swap", "ret 0\nret 1\nchoose 0 : 0 1\nput 5 1 : 2",
                  "ret 0\nret 1\nput 5 1 : 0\nput 5 1 : 1\nchoose 0 : 2 3", True, True)
        # A failing beneath the layer of the deed before it swallows it.
        self.step("swap", "fail 4 1\nput 5 1 : 0", "fail 4 1")
        self.step("swap", "fail 4 1\nget 5 : 0 0", "fail 4 1")
        self.step("swap", "fail 4 1\nput 1 1 : 0", "fail 4 1", False)
        self.step("swap", "fail 4 1\nchoose 0 : 0 0", "fail 4 1", False)
        self.step("swap", "fail 4 0\nfail 4 1\nget 5 : 0 1", "fail 4 0", False)
        self.step("swap", "ret 0\nput 5 1 : 0", "ret 0", False)
        self.step("swap", "ret 0\nput 1 1 : 0\nput 1 0 : 1", "ret 0\nput 1 0 : 0\nput 1 1 : 1",
                  False)
        self.step("swap", "ret 0", "ret 0", False)
        self.step("swap", "ret 0\nput 1 0 : 0\nput 1 1 : 0\nput 5 0 : 1\nget 5 : 1 2",
                  "ret 0\nget 5 : 0 0\nput 1 0 : 1", False)

    def test_swap_of_a_deed_without_children(self):
        self.step("swap", "fail 4 1", "fail 4 1", False)

    def test_swap_of_pieces(self):
        texts = {"twochoose": ("choose 0", "choose 1"), "mixed": ("choose 0", "draw 0 1 3"),
                 "twodraw": ("draw 0 1 3", "draw 1 2 5"), "spread": ("choose 0", "draw 0 1 3")}
        for kernel, (f, g) in texts.items():
            told = kernel != "spread"
            self.step("swap", f"ret 0\nret 1\nret 2\nret 3\n{g} : 0 1\n{g} : 2 3\n{f} : 4 5",
                      f"ret 0\nret 1\nret 2\nret 3\n{f} : 0 2\n{f} : 1 3\n{g} : 4 5", told, told,
                      Web(Book(kernel, ())))

    def test_swap_with_an_ask(self):
        web = Web(Book("none", [("cell", "c", 2), ("outside", "o", (2, 1)), ("note", "n", SIGNS)]))
        self.step("swap", "ret 0\nret 1\nask 2 0 : 0 1\nnote 3 1 : 2",
                  "ret 0\nret 1\nnote 3 1 : 0\nnote 3 1 : 1\nask 2 0 : 2 3", True, True, web)
        self.step("swap", "ret 0\nret 1\nask 2 0 : 0 1\nput 1 1 : 2",
                  "ret 0\nret 1\nput 1 1 : 0\nput 1 1 : 1\nask 2 0 : 2 3", False, False, web)
        self.step("swap", "ret 0\nask 2 1 : 0\nnote 3 1 : 1", "ret 0\nnote 3 1 : 0\nask 2 1 : 1",
                  True, True, web)

    def test_other_words(self):
        web = Web(Book("spread", LAYERED))
        a, b = node_of(web, "ret 0\nget 1 : 0 0"), node_of(web, "ret 0")
        for word in ("", "like", "turn", "join", "within", "Idle", "idle ", "peek", "put"):
            self.assertIs(is_step(web, word, a, b), False)
            self.assertIs(is_step(web, word, b, b), False)


class AllSteps(unittest.TestCase):
    def test_by_the_words_of_the_document(self):
        counts = {word: 0 for word in WORDS}
        for book in (Book(kernel, layers) for kernel in KERNELS for layers in LAYERS[1:4]):
            web = Web(book)
            nodes = some_trees(web)
            stepper = Stepper(web)
            steps = {}
            for a in nodes:
                for word, b in stepper.steps(a):
                    steps[word, a, b] = True
            ends = sorted({b for _, _, b in steps})[::8] + nodes[::10]
            for (word, a, b) in steps:
                counts[word] += 1
                self.assertIs(is_step(web, word, a, b), True)
            for a in nodes[::5]:
                for b in ends:
                    self.judge_pair(web, a, b, steps)
        for word in WORDS:
            if word not in ("lot", "share"):
                self.assertGreater(counts[word], 10, word)

    def judge_pair(self, web, a, b, steps):
        for word in WORDS:
            if word == "lot":
                told = any(members(web, piece, a) == members(web, piece, b)
                           for piece in range(choices(web.book.kernel)))
            elif word == "share":
                told = any(shares(web, piece, a) == shares(web, piece, b)
                           for piece in range(draws(web.book.kernel)))
            else:
                told = (word, a, b) in steps
            self.assertIs(is_step(web, word, a, b), told, (word, a, b))

    def test_steps_keep_the_form(self):
        compared = 0
        for web, nodes in all_nodes(20, 5, seed=11):
            for a in nodes:
                for word, b in Stepper(web).steps(a):
                    self.assertIs(is_step(web, word, a, b), True)
                    try:
                        told = form_of(web, a)
                        found = form_of(web, b)
                    except TooLarge:
                        continue
                    compared += a != b
                    self.assertEqual(found, told, word)
        self.assertGreater(compared, 150)


if __name__ == "__main__":
    unittest.main()
