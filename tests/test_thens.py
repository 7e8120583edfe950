import unittest

from besideandthrough.bodies import only
from besideandthrough.books import Book
from besideandthrough.errors import TooLarge
from besideandthrough.forms import form_of
from besideandthrough.grafts import caught, grafted, results
from besideandthrough.thens import rescue, then
from besideandthrough.webs import Web
from tests.helpers import KERNELS, LEFT, SIGNS, node_of, remade
from tests.nodes import all_nodes
from tests.test_forms import bow


def form_or_none(web, node):
    try:
        return form_of(web, node)
    except TooLarge:
        return None


def forms(book, *texts):
    web = Web(book)
    return [form_of(web, node_of(web, text)) for text in texts]


class Then(unittest.TestCase):
    def test_results_go_on(self):
        for kernel in KERNELS:
            book = Book(kernel, [("cell", "c", 2)])
            first, zero, one = forms(book, "ret 0\nret 1\nput 1 0 : 1\nget 1 : 0 2",
                                     "ret 7\nret 8\nget 1 : 0 1", "ret 9\nput 1 1 : 0")
            told, half = forms(book, "ret 7\nret 9\nput 1 1 : 1\nget 1 : 0 2",
                               "ret 7\nret 1\nput 1 0 : 1\nget 1 : 0 2")
            table = {"0": zero, "1": one}
            self.assertEqual(then(book, first, table), told)
            self.assertEqual(then(book, first, {"0": zero}), half)
            self.assertEqual(then(book, first, {}), first)
            self.assertEqual(then(book, first, {"2": zero, "00": one}), first)
            self.assertEqual(table, {"0": zero, "1": one})

    def test_failings_do_not_go_on(self):
        book = Book("choose", [("fail", "f", 2)])
        first, seven = forms(book, "ret 0\nfail 1 1\nchoose 0 : 0 1", "ret 7")
        told, = forms(book, "ret 7\nfail 1 1\nchoose 0 : 0 1")
        self.assertEqual(then(book, first, {"0": seven, "1": seven}), told)

    def test_results_lead_to_each_other(self):
        book = Book("choose", [("note", "n", LEFT)])
        first, zero, one = forms(book, "ret 0\nret 1\nnote 1 1 : 0\nnote 1 2 : 1\nchoose 0 : 2 3",
                                 "ret 1\nnote 1 2 : 0", "ret 0")
        # No result is replaced twice, and the notes before stand to the left.
        told, = forms(book, "ret 1\nret 0\nnote 1 1 : 0\nnote 1 2 : 1\nchoose 0 : 2 3")
        self.assertEqual(then(book, first, {"0": zero, "1": one}), told)

    def test_settings_and_asks(self):
        book = Book("none", [("cell", "c", 2), ("setting", "s", 2), ("outside", "o", (2,)),
                             ("setting", "t", 2), ("note", "n", SIGNS)])
        ask = "ret 0\nret 1\nput 1 1 : 0\nput 1 0 : 1\nask 3 0 : 2 3"
        first, looks = forms(book, ask + "\nnote 5 1 : 4", "\n".join([
            "ret 4", "ret 5", "look 2 : 0 1", "ret 6", "look 4 : 2 3", "note 5 1 : 4"]))
        # Beneath the layer that asks, the settings are those of the state behind the ask.
        told, = forms(book, "\n".join([
            "ret 4", "ret 5", "look 2 : 0 1", "ret 6", "look 4 : 2 3", "note 5 1 : 4",
            "put 1 1 : 5", "ret 1", "put 1 0 : 7", "ask 3 0 : 6 8", "note 5 1 : 9"]))
        self.assertEqual(then(book, first, {"0": looks}), told)
        for at, texts in ((0, "4545"), (1, "6666"), (6, "4545")):
            self.assertEqual(told[at], only(("ask", 3, 0, (at // 4, 0), (
                tuple(only(("done", text, (1, 0, 0, 0, 0))) for text in texts),
                (only(("done", "1", (0, 0, 0, 0, 1))),) * 4))))

    def test_too_large(self):
        web, root = bow(9)
        one, other = [form_of(web, child) for child in web.children_of(root)]
        first, = forms(web.book, "ret 7\nret 8\nchoose 0 : 0 1")
        with self.assertRaises(TooLarge):
            then(web.book, first, {"7": one, "8": other})
        self.assertEqual(len(one[0]), 8)
        only_seven, = forms(web.book, "ret 7")
        self.assertEqual(then(web.book, only_seven, {"7": one}), one)

    def test_then_is_grafting(self):
        compared = 0
        for web, nodes in all_nodes(9, 4, seed=6):
            for root, one, other in zip(nodes, nodes[3:], nodes[6:]):
                table = {"0": one, "(0 1)": other}
                given = {text: form_or_none(web, node) for text, node in table.items()}
                form = form_or_none(web, root)
                told = form_or_none(web, grafted(web, root, table))
                if None not in (form, told, *given.values()):
                    compared += bool(results(web, root))
                    self.assertEqual(then(web.book, form, given), told)
        self.assertGreater(compared, 100)


class Rescue(unittest.TestCase):
    def test_a_failing_goes_on(self):
        for kernel in KERNELS:
            book = Book(kernel, [("cell", "c", 2), ("fail", "f", 2), ("cell", "d", 2)])
            first, other = forms(book, "fail 2 1\nput 1 1 : 0\nput 3 0 : 1",
                                 "ret 0\nret 1\nret 2\nret 3\nget 3 : 0 1\nget 3 : 2 3\n"
                                 "get 1 : 4 5")
            # The cell beneath the layer stays, and the cell above is as it was.
            told, = forms(book, "ret 2\nret 3\nget 3 : 0 1\nput 1 1 : 2")
            self.assertEqual(rescue(book, first, 2, 1, other), told)
            self.assertEqual(rescue(book, first, 2, 0, other), first)

    def test_notes(self):
        book = Book("none", [("note", "m", LEFT), ("fail", "f", 1), ("note", "n", LEFT)])
        first, other = forms(book, "fail 2 0\nnote 1 1 : 0\nnote 3 1 : 1",
                             "ret 0\nnote 1 2 : 0\nnote 3 2 : 1")
        told, = forms(book, "ret 0\nnote 1 1 : 0\nnote 3 2 : 1")
        self.assertEqual(rescue(book, first, 2, 0, other), told)

    def test_settings(self):
        book = Book("none", [("setting", "s", 2), ("fail", "f", 1), ("setting", "t", 2)])
        first, other = forms(book, "fail 2 0",
                             "ret 0\nret 1\nlook 1 : 0 1\nret 2\nlook 3 : 2 3")
        self.assertEqual(rescue(book, first, 2, 0, other), other)

    def test_other_ends_stay(self):
        book = Book("choose", [("fail", "g", 2), ("fail", "f", 2)])
        text = "ret 0\nfail 1 1\nchoose 0 : 0 1\nfail 2 0\nchoose 0 : 2 3\nfail 2 1\nchoose 0 : 4 5"
        first, other = forms(book, text, "ret 7\nfail 2 0\nchoose 0 : 0 1")
        told, = forms(book, text.replace("fail 2 1", "ret 7"))
        self.assertEqual(rescue(book, first, 2, 1, other), told)

    def test_asks_beneath_the_layer(self):
        book = Book("none", [("cell", "c", 2), ("outside", "o", (2,)), ("note", "n", SIGNS),
                             ("fail", "f", 1), ("cell", "d", 2)])
        first, other = forms(
            book, "ret 0\nfail 4 0\nput 5 0 : 1\nnote 3 1 : 2\nask 2 0 : 0 3\nput 1 1 : 4",
            "ret 1\nret 2\nget 5 : 0 1\nnote 3 1 : 2\nput 1 0 : 3")
        told, = forms(book, "ret 0\nret 1\nret 2\nget 5 : 1 2\nput 1 0 : 3\nask 2 0 : 0 4\n"
                            "put 1 1 : 5")
        self.assertEqual(rescue(book, first, 4, 0, other), told)

    def test_too_large(self):
        small, root = bow(9)
        book = Book("spread", [("fail", "f", 1)])
        web = Web(book)
        numbers = remade(web, small)
        eight = form_of(web, numbers[small.children_of(root)[0]])
        first, fail = forms(book, "ret 9\nfail 1 0\nchoose 0 : 0 1", "fail 1 0")
        with self.assertRaises(TooLarge):
            rescue(book, first, 1, 0, eight)
        self.assertEqual(rescue(book, fail, 1, 0, eight), eight)

    def test_rescue_is_catching(self):
        compared = 0
        for web, nodes in all_nodes(9, 4, seed=7):
            words = [layer[0] for layer in web.book.layers]
            for at, word in enumerate(words):
                if word == "fail" and "outside" not in words[at:]:
                    for root, other in zip(nodes, nodes[1:]):
                        for kind in range(web.book.count_at(at + 1)):
                            compared += self.judge(web, root, at + 1, kind, other)
        self.assertGreater(compared, 100)

    def judge(self, web, root, layer, kind, other):
        form, behind = form_or_none(web, root), form_or_none(web, other)
        told = form_or_none(web, caught(web, root, layer, kind, other))
        if None in (form, behind, told):
            return False
        found = rescue(web.book, form, layer, kind, behind)
        self.assertEqual(found, told)
        return found != form


if __name__ == "__main__":
    unittest.main()
