import random
import unittest

from besideandthrough.books import Book
from besideandthrough.errors import TooLarge, WebError
from besideandthrough.forms import form_of
from besideandthrough.lifting import lifted, places_within
from besideandthrough.webs import Web
from besideandthrough.webtexts import write_web
from tests.helpers import CELL, FAIL, KERNELS, NOTE, OUTSIDE, SETTING, SIGNS, node_of
from tests.nodes import Nodes

WIDER = {"none": set(KERNELS), "choose": {"choose", "spread", "twochoose", "mixed"},
         "draw": {"draw", "spread", "twodraw"}}
FURTHER = (("note", "x", SIGNS), ("fail", "y", 1), ("outside", "z", (1,)), ("setting", "w", 2))


def wider(kernel):
    return WIDER.get(kernel, {kernel})


class Places(unittest.TestCase):
    def test_each_pair_of_kernels(self):
        for lesser in KERNELS:
            for greater in KERNELS:
                found = places_within(Book(lesser, [CELL, NOTE]), Book(greater, [CELL, NOTE]))
                self.assertEqual(found, (1, 2) if greater in wider(lesser) else None)
                found = places_within(Book(lesser, ()), Book(greater, [FAIL]))
                self.assertEqual(found, () if greater in wider(lesser) else None)

    def test_layers(self):
        for lesser, greater, found in (
            ((), (), ()),
            ((), (CELL, NOTE), ()),
            ((CELL,), (), None),
            ((CELL, NOTE), (CELL, NOTE), (1, 2)),
            # Further layers before, between and behind.
            ((CELL, NOTE), (FAIL, CELL, NOTE), (2, 3)),
            ((CELL, NOTE), (CELL, OUTSIDE, NOTE), (1, 3)),
            ((CELL, NOTE), (CELL, NOTE, SETTING), (1, 2)),
            ((CELL, NOTE), (SETTING, CELL, OUTSIDE, NOTE, FAIL), (2, 4)),
            # Another sequence, or another layer.
            ((CELL, NOTE), (NOTE, CELL), None),
            ((CELL, NOTE, FAIL), (CELL, FAIL, NOTE), None),
            ((CELL, NOTE), (CELL,), None),
            ((CELL,), (("cell", "c", 3),), None),
            ((CELL,), (("cell", "d", 2),), None),
            ((CELL,), (("setting", "c", 2),), None),
            ((NOTE,), (("note", "n", SIGNS),), None),
            ((OUTSIDE,), (("outside", "o", (3,)),), None),
        ):
            with self.subTest(lesser=lesser, greater=greater):
                self.assertEqual(places_within(Book("none", lesser), Book("none", greater)), found)


class Lifting(unittest.TestCase):
    def test_a_part(self):
        book = Book("draw", [SETTING, CELL, NOTE, OUTSIDE, FAIL])
        source = Web(Book("draw", [CELL, NOTE, FAIL]))
        node_of(source, "ret 9\nput 1 1 : 0")
        root = node_of(source, "ret 0\nfail 3 1\nnote 2 1 : 0\ndraw 0 1 9 : 1 2\nput 1 1 : 3\n"
                               "get 1 : 0 4")
        before = list(source)
        web = Web(book)
        found = lifted(web, source, root)
        self.assertEqual(list(source), before)
        self.assertEqual(write_web(web, found),
                         "ret 0\nfail 5 1\nnote 3 1 : 0\ndraw 0 1 9 : 1 2\nput 2 1 : 3\nget 2 : 0 4")
        self.assertEqual(lifted(web, source, root), found)
        source = Web(Book("none", [SETTING, OUTSIDE]))
        root = node_of(source, "ret 0\nask 2 1 : 0\nask 2 0 : 0 1 0\nlook 1 : 0 1 2")
        self.assertEqual(write_web(web, lifted(web, source, root)),
                         "ret 0\nask 4 1 : 0\nask 4 0 : 0 1 0\nlook 1 : 0 1 2")

    def test_nodes_stay(self):
        web = Web(Book("none", [FAIL, CELL]))
        node_of(web, "ret 0\nput 2 1 : 0")
        source = Web(Book("none", [CELL]))
        root = node_of(source, "ret 1\nret 0\nput 1 1 : 1\nget 1 : 0 2")
        before = list(web)
        self.assertEqual(write_web(web, lifted(web, source, root)),
                         "ret 1\nret 0\nput 2 1 : 1\nget 2 : 0 2")
        self.assertEqual(list(web)[:2], before)

    def test_books_that_are_not_within(self):
        for lesser, greater in ((("choose", [CELL]), ("none", [CELL])),
                                (("none", [CELL]), ("none", [])),
                                (("none", [CELL, FAIL]), ("none", [FAIL, CELL])),
                                (("draw", []), ("mixed", [])),
                                (("spread", []), ("choose", []))):
            source, web = Web(Book(*lesser)), Web(Book(*greater))
            root = node_of(source, "ret 0")
            with self.assertRaises(WebError):
                lifted(web, source, root)
            self.assertEqual(list(web), [])

    def test_the_same_forms(self):
        generator = random.Random(6)
        told = set()
        for lesser in KERNELS:
            layers = [("cell", "c", 2), ("note", "n", SIGNS), ("fail", "f", 1)]
            made = Nodes(Book(lesser, layers), 9)
            nodes = made.nodes(14, 2)
            for greater in sorted(wider(lesser)):
                wide = list(layers)
                for layer in generator.sample(FURTHER, 2):
                    wide.insert(generator.randint(0, len(wide)), layer)
                told |= self.compare(made.web, nodes, Web(Book(greater, wide)))
        self.assertEqual(told, {True, False})

    def compare(self, source, nodes, web):
        told = set()
        forms = []
        for node in nodes:
            try:
                forms.append((form_of(source, node), form_of(web, lifted(web, source, node))))
            except TooLarge:
                pass
        for one, above in forms:
            for other, beside in forms:
                self.assertEqual(one == other, above == beside)
                told.add(one == other)
        return told


if __name__ == "__main__":
    unittest.main()
