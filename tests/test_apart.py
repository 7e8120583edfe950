import unittest

from besideandthrough.apart import (
    change_places, left_out, one_result_twice, one_then_other, other_then_one, result_dropped,
    twice)
from besideandthrough.books import Book
from besideandthrough.errors import TooLarge, WebError
from besideandthrough.forms import form_of
from besideandthrough.webs import Web
from besideandthrough.webtexts import write_web
from tests.helpers import KERNELS, LEFT, SIGNS, node_of
from tests.nodes import all_nodes
from tests.test_leading import NINE
from tests.trees import node_for, replaced, results_in, tree_of

LAYERS = (("setting", "s", 2), ("cell", "c", 2), ("note", "n", SIGNS), ("outside", "o", (2,)),
          ("cell", "d", 3), )
DEEP = "ret ((((0 0) 0) 0) 0)"


def returned(text):
    return ("ret", text), ()


def one_behind_other(web, one, other):
    """The tree of point [122]: one program and then the other one."""
    table = {}
    for t in results_in(one):
        pairs = {u: returned(f"({t} {u})") for u in results_in(other)}
        table[t] = replaced(other, pairs)
    return replaced(one, table)


def other_behind_one(web, one, other):
    table = {}
    for u in results_in(other):
        table[u] = replaced(one, {t: returned(f"({t} {u})") for t in results_in(one)})
    return replaced(other, table)


class Apart(unittest.TestCase):
    def test_trees(self):
        seen = set()
        for web, nodes in all_nodes(5, 2, seed=100):
            before = list(web)
            for one in nodes:
                tree = tree_of(web, one)
                dropped = replaced(tree, {t: returned("0") for t in results_in(tree)})
                self.assertEqual(result_dropped(web, one), node_for(web, dropped))
                double = replaced(tree, {t: returned(f"({t} {t})") for t in results_in(tree)})
                self.assertEqual(one_result_twice(web, one), node_for(web, double))
                for other in nodes:
                    trees = (tree, tree_of(web, other))
                    self.assertEqual(one_then_other(web, one, other),
                                     node_for(web, one_behind_other(web, *trees)))
                    self.assertEqual(other_then_one(web, one, other),
                                     node_for(web, other_behind_one(web, *trees)))
                    seen.add(web.book.kernel)
            self.assertEqual(list(web)[:len(before)], before)
        self.assertEqual(seen, set(KERNELS))

    def test_texts(self):
        web = Web(Book("none", LAYERS))
        one = node_of(web, "ret 7\nput 2 1 : 0")
        other = node_of(web, "ret 1\nret (0 1)\nlook 1 : 0 1")
        self.assertEqual(write_web(web, one_then_other(web, one, other)),
                         "ret (7 1)\nret (7 (0 1))\nlook 1 : 0 1\nput 2 1 : 2")
        self.assertEqual(write_web(web, other_then_one(web, one, other)),
                         "ret (7 1)\nput 2 1 : 0\nret (7 (0 1))\nput 2 1 : 2\nlook 1 : 1 3")
        self.assertEqual(write_web(web, result_dropped(web, other)), "ret 0\nlook 1 : 0 0")
        self.assertEqual(write_web(web, one_result_twice(web, other)),
                         "ret (1 1)\nret ((0 1) (0 1))\nlook 1 : 0 1")

    def verdicts(self, call, *given):
        """The verdict in each kernel, which is the same one; forms of the nodes tell it."""
        found = set()
        for kernel in KERNELS:
            web = Web(Book(kernel, LAYERS))
            found.add(call(web, *[node_of(web, text) for text in given]))
        self.assertEqual(len(found), 1)
        return found.pop()

    def test_change_places(self):
        put, get, other = "ret 0\nput 2 1 : 0", "ret 0\nret 1\nget 2 : 0 1", "ret 0\nput 5 2 : 0"
        note, ask, look = "ret 0\nnote 3 1 : 0", "ret 0\nret 1\nask 4 0 : 0 1", "ret 0\nret 1\nlook 1 : 0 1"
        for one, two, found in ((put, get, False), (put, put, True), (get, get, True),
                                (put, "ret 0\nput 2 0 : 0", False), (put, other, True),
                                (other, get, True), (note, note, True), (note, put, True),
                                (ask, put, False), (ask, get, False), (ask, other, True),
                                (ask, ask, False), (look, put, True), (look, look, True),
                                ("ret 5", ask, True)):
            with self.subTest(one=one, two=two):
                self.assertIs(self.verdicts(change_places, one, two), found)
                self.assertIs(self.verdicts(change_places, two, one), found)

    def test_notes_that_do_not_change_places(self):
        web = Web(Book("none", [("note", "n", LEFT)]))
        one, other = node_of(web, "ret 0\nnote 1 1 : 0"), node_of(web, "ret 0\nnote 1 2 : 0")
        self.assertIs(change_places(web, one, other), False)
        self.assertIs(change_places(web, one, one), True)

    def test_draws_and_choices(self):
        coin = {"choose": "choose 0", "draw": "draw 0 1 3"}
        for kernel, first, second, found in (
            ("choose", "choose", "choose", True), ("draw", "draw", "draw", True),
            ("mixed", "choose", "draw", True), ("spread", "draw", "choose", False),
            ("spread", "choose", "draw", False), ("spread", "draw", "draw", True),
        ):
            web = Web(Book(kernel, LAYERS))
            one, other = [node_of(web, f"ret 0\nret 1\n{coin[word]} : 0 1") for word in (first, second)]
            self.assertIs(change_places(web, one, other), found, (kernel, first, second))

    def test_left_out(self):
        for text, found in (("ret 7", True), ("ret 0\nput 2 1 : 0", False),
                            ("ret 0\nret 1\nget 2 : 0 1", True),
                            ("ret 3\nput 2 0 : 0\nput 2 1 : 0\nget 2 : 1 2", True),
                            ("ret 3\nput 2 0 : 0\nput 2 1 : 0\nget 2 : 2 1", False),
                            ("ret 0\nnote 3 1 : 0", False), ("ret 5\nnote 3 1 : 0\nnote 3 1 : 1", True),
                            ("ret 1\nask 4 0 : 0 0", False), ("ret 0\nret 1\nlook 1 : 0 1", True)):
            with self.subTest(text):
                self.assertIs(self.verdicts(left_out, text), found)
        for kernel, text in (("choose", "choose 0"), ("draw", "draw 0 1 3"), ("mixed", "draw 0 1 2"),
                             ("twochoose", "choose 1"), ("twodraw", "draw 1 1 2"),
                             ("spread", "choose 0")):
            web = Web(Book(kernel, ()))
            self.assertIs(left_out(web, node_of(web, f"ret 0\nret 1\n{text} : 0 1")), True)
        web = Web(Book("none", [("fail", "f", 1)]))
        self.assertIs(left_out(web, node_of(web, "fail 1 0")), False)

    def test_twice(self):
        for text, found in (("ret 7", True), ("ret 0\nput 2 1 : 0", True),
                            ("ret 0\nret 1\nget 2 : 0 1", True), ("ret 0\nnote 3 1 : 0", False),
                            ("ret 3\nput 2 0 : 0\nput 2 1 : 0\nget 2 : 2 1", False),
                            ("ret 1\nask 4 0 : 0 0", False)):
            with self.subTest(text):
                self.assertIs(self.verdicts(twice, text), found)
        for kernel, text, found in (("choose", "choose 0", False), ("draw", "draw 0 1 3", False)):
            web = Web(Book(kernel, ()))
            self.assertIs(twice(web, node_of(web, f"ret 0\nret 1\n{text} : 0 1")), found)
            self.assertIs(twice(web, node_of(web, f"ret 1\n{text} : 0 0")), True)
        web = Web(Book("none", [("fail", "f", 1), ("note", "n", LEFT)]))
        self.assertIs(twice(web, node_of(web, "fail 1 0")), True)
        self.assertIs(twice(web, node_of(web, "ret 0\nnote 2 1 : 0")), True)

    def test_values_that_become_too_deep(self):
        web = Web(Book("none", [("fail", "f", 1)]))
        deep, flat = node_of(web, "ret ((((0 0) 0) 0) 0)"), node_of(web, "ret 0")
        nearly, failing = node_of(web, "ret (((0 0) 0) 0)"), node_of(web, "fail 1 0")
        before = list(web)
        for call in (one_then_other, other_then_one, change_places):
            for one, other in ((deep, flat), (flat, deep), (deep, deep)):
                with self.assertRaises(WebError):
                    call(web, one, other)
        self.assertEqual(list(web), before)
        for call in (one_then_other, other_then_one, change_places):
            call(web, nearly, flat)
            # Nothing is paired with what a failing does not return.
            call(web, deep, failing)
            call(web, failing, deep)
        before = list(web)
        for call in (one_result_twice, twice):
            with self.assertRaises(WebError):
                call(web, deep)
        self.assertEqual(list(web), before)
        for call in (one_result_twice, twice):
            call(web, nearly)
        self.assertEqual(write_web(web, result_dropped(web, deep)), "ret 0")
        self.assertIs(left_out(web, deep), True)

    def test_too_large(self):
        web = Web(Book("spread", ()))
        large = node_of(web, NINE)
        for call, given in ((change_places, (large, 0)), (change_places, (0, large)),
                            (twice, (large,))):
            before = list(web)
            with self.assertRaises(TooLarge):
                call(web, *given)
            self.assertEqual(list(web), before)
        # All nine share points become one if the results are dropped.
        self.assertIs(left_out(web, large), True)

    def test_forms(self):
        """The verdicts are those of the forms of the nodes of points [122] to [124]."""
        told = set()
        for web, nodes in all_nodes(4, 2, seed=101):
            nothing = web.make(("ret", "0"), ())
            for one in nodes:
                for other in nodes:
                    forms = []
                    try:
                        for call in (one_then_other, other_then_one):
                            forms.append(form_of(web, call(web, one, other)))
                    except TooLarge:
                        continue
                    found = change_places(web, one, other)
                    self.assertIs(found, forms[0] == forms[1])
                    told.add(("change", found))
                found = left_out(web, one)
                self.assertIs(found, form_of(web, result_dropped(web, one)) == form_of(web, nothing))
                told.add(("out", found))
        self.assertEqual(told, {(word, found) for word in ("change", "out") for found in (True, False)})


if __name__ == "__main__":
    unittest.main()
