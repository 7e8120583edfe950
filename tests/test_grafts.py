import random
import unittest

from besideandthrough.books import Book
from besideandthrough.grafts import caught, grafted, results
from besideandthrough.errors import TooLarge
from besideandthrough.plays import Play
from besideandthrough.reader import read_program
from besideandthrough.running import run
from besideandthrough.states import starts
from besideandthrough.unfolding import unfold
from besideandthrough.webruns import run_web, walk
from besideandthrough.webs import Web
from besideandthrough.webtexts import read_web, write_web
from tests.helpers import LEFT, SIGNS, wide_book
from tests.programs import programs, scripts
from tests.trees import caught_in, node_for, replaced, tree_of

# Cells and notes beneath, between and above two layers of failings.
MIXED = Book("choose", [("cell", "a", 2), ("fail", "f", 2), ("note", "n", LEFT),
                        ("cell", "b", 2), ("fail", "g", 1)])


def random_trees(book, seed, many):
    """Yields random trees over the book, the same ones each time."""
    rnd = random.Random(seed)
    ends = [("ret", "0"), ("ret", "1"), ("ret", "(0 1)")]
    deeds = [("choose", 0)]
    for at, (word, _, extent) in enumerate(book.layers):
        layer = at + 1
        if word == "fail":
            ends += [("fail", layer, kind) for kind in range(extent)] * 2
        elif word == "cell":
            deeds += [("get", layer)] + [("put", layer, value) for value in range(extent)]
        elif word == "note":
            deeds += [("note", layer, member) for member in range(len(extent))] * 2

    def made(depth):
        if depth == 0 or rnd.random() < 0.15:
            return rnd.choice(ends), ()
        deed = rnd.choice(deeds)
        ways = {"put": 1, "note": 1}.get(deed[0], 2)
        return deed, tuple(made(depth - 1) for _ in range(ways))

    for _ in range(many):
        yield made(rnd.randint(0, 5))


class Results(unittest.TestCase):
    def test_ascending_as_strings_each_once(self):
        text = "ret 9\nret 10\nret (1 2)\nask 4 0 : 0 1 2\nfail 5 0\nlook 1 : 3 4 0"
        web, root = read_web(wide_book(), text)
        self.assertEqual(results(web, root), ["(1 2)", "10", "9"])

    def test_only_of_the_part(self):
        web = Web(wide_book())
        one = web.make(("ret", "1"), ())
        other = web.make(("ret", "0"), ())
        fail = web.make(("fail", 5, 0), ())
        self.assertEqual(results(web, one), ["1"])
        self.assertEqual(results(web, web.make(("choose", 0), (one, other))), ["0", "1"])
        self.assertEqual(results(web, fail), [])
        self.assertEqual(len(list(web)), 4)


class Grafting(unittest.TestCase):
    def setUp(self):
        self.web = Web(MIXED)
        self.zero = self.web.make(("ret", "0"), ())
        self.one = self.web.make(("ret", "1"), ())
        self.root = self.web.make(("choose", 0), (self.zero, self.one))

    def test_a_result_becomes_a_tree(self):
        node = grafted(self.web, self.root, {"0": self.root})
        self.assertEqual(write_web(self.web, node),
                         "ret 0\nret 1\nchoose 0 : 0 1\nchoose 0 : 2 1")

    def test_what_is_put_in_is_not_changed(self):
        # The results change places: none is replaced twice.
        node = grafted(self.web, self.root, {"0": self.one, "1": self.zero})
        self.assertEqual(write_web(self.web, node), "ret 1\nret 0\nchoose 0 : 0 1")
        node = grafted(self.web, self.root, {"0": self.root, "1": self.root})
        self.assertEqual(self.web.children_of(node), (self.root, self.root))

    def test_a_result_that_does_not_occur(self):
        self.assertEqual(grafted(self.web, self.root, {"2": self.zero}), self.root)
        self.assertEqual(grafted(self.web, self.root, {}), self.root)
        self.assertEqual(grafted(self.web, self.one, {"0": self.root, "00": self.root}), self.one)
        fail = self.web.make(("fail", 2, 0), ())
        self.assertEqual(grafted(self.web, fail, {"0": self.root}), fail)

    def test_a_result_at_the_top(self):
        self.assertEqual(grafted(self.web, self.zero, {"0": self.root}), self.root)

    def test_what_was_there_stays(self):
        before = list(self.web)
        table = {"0": self.root, "1": self.one}
        grafted(self.web, self.root, table)
        self.assertEqual(list(self.web)[:3], before)
        self.assertEqual(table, {"0": self.root, "1": self.one})

    def test_many_trees(self):
        trees = list(random_trees(MIXED, 1, 120))
        for tree, one, other in zip(trees, trees[40:], trees[80:]):
            table = {"0": one, "(0 1)": other}
            nodes = {text: node_for(self.web, put) for text, put in table.items()}
            node = grafted(self.web, node_for(self.web, tree), nodes)
            self.assertEqual(tree_of(self.web, node), replaced(tree, table))

    def test_a_long_chain(self):
        node = self.zero
        for _ in range(3000):
            node = self.web.make(("choose", 0), (node, self.one))
        self.assertEqual(results(self.web, node), ["0", "1"])
        self.assertEqual(self.web.size_of(grafted(self.web, node, {"0": self.root})), 6003)


class Catching(unittest.TestCase):
    def caught_text(self, book, text, layer, kind, other):
        web, root = read_web(book, text)
        node = web.make(("ret", other), ())
        return write_web(web, caught(web, root, layer, kind, node))

    def test_without_layers_above(self):
        book = Book("choose", [("cell", "c", 2), ("fail", "f", 2)])
        text = "fail 2 0\nfail 2 1\nchoose 0 : 0 1\nput 1 1 : 2"
        self.assertEqual(self.caught_text(book, text, 2, 1, "7"),
                         "fail 2 0\nret 7\nchoose 0 : 0 1\nput 1 1 : 2")

    def test_a_failing_that_does_not_occur(self):
        book = Book("none", [("fail", "f", 2), ("cell", "c", 2)])
        self.assertEqual(self.caught_text(book, "fail 1 0", 1, 1, "7"), "fail 1 0\nget 2 : 0 0")

    def test_cells_above_are_written_back_lowest_outermost(self):
        book = Book("none", [("fail", "f", 1), ("cell", "c", 2), ("cell", "d", 2)])
        self.assertEqual(
            self.caught_text(book, "fail 1 0\nput 3 1 : 0", 1, 0, "7"), "\n".join([
                "ret 7", "put 3 0 : 0", "put 2 0 : 1", "put 3 1 : 2",
                "put 3 1 : 0", "put 2 0 : 4", "put 3 1 : 5", "get 3 : 3 6",
                "put 2 1 : 1", "put 3 1 : 8", "put 2 1 : 4", "put 3 1 : 10", "get 3 : 9 11",
                "get 2 : 7 12"]))

    def test_notes_above_are_gathered(self):
        book = Book("choose", [("note", "m", LEFT), ("fail", "f", 2), ("note", "n", LEFT),
                               ("fail", "g", 1), ("note", "k", SIGNS)])
        # The first note of a layer stays, since it absorbs the others from the left.
        self.assertEqual(
            self.caught_text(book, "ret 0\nnote 3 1 : 0\nnote 5 1 : 1\nnote 3 2 : 2", 2, 0, "7"),
            "ret 0\nnote 5 1 : 0\nnote 3 2 : 1")
        # Those beneath the layer stand where they stood.
        self.assertEqual(self.caught_text(book, "ret 0\nnote 1 2 : 0\nnote 3 1 : 1", 2, 0, "7"),
                         "ret 0\nnote 3 1 : 0\nnote 1 2 : 1")
        # A product that is 0 is not written, and a failing keeps what is beneath it only.
        self.assertEqual(self.caught_text(book, "ret 0\nnote 5 1 : 0\nnote 5 1 : 1", 2, 0, "7"),
                         "ret 0")
        self.assertEqual(self.caught_text(book, "fail 4 0\nnote 5 1 : 0\nnote 3 1 : 1", 2, 0, "7"),
                         "fail 4 0\nnote 3 1 : 0")
        self.assertEqual(self.caught_text(book, "fail 2 1\nnote 5 1 : 0\nnote 3 1 : 1", 2, 0, "7"),
                         "fail 2 1")
        # The notes of the failing that is caught are lost.
        self.assertEqual(self.caught_text(book, "fail 2 0\nnote 5 1 : 0\nnote 3 1 : 1", 2, 0, "7"),
                         "ret 7")

    def test_the_other_tree_is_not_changed(self):
        web = Web(MIXED)
        fail = web.make(("fail", 2, 0), ())
        noted = web.make(("note", 3, 1), (fail,))
        node = caught(web, fail, 2, 0, noted)
        put = web.children_of(node)[0]
        self.assertEqual(web.deed_of(put), ("put", 4, 0))
        self.assertEqual(web.children_of(put), (noted,))

    def test_many_trees(self):
        web = Web(MIXED)
        trees = list(random_trees(MIXED, 2, 150))
        for tree, other in zip(trees, reversed(trees)):
            for layer, kind in ((2, 0), (2, 1), (5, 0)):
                before = list(web)
                node = caught(web, node_for(web, tree), layer, kind, node_for(web, other))
                self.assertEqual(tree_of(web, node), caught_in(MIXED, tree, layer, kind, other))
                self.assertEqual(list(web)[:len(before)], before)

    def outcome_by_restoring(self, web, root, layer, kind, other, start, script):
        """A run by the words of point [42]."""
        play = Play(web.book, start, script)
        node = walk(play, web, root)
        if web.deed_of(node) == ("fail", layer, kind):
            play.restore(layer, start)
            node = walk(play, web, other)
        return play.outcome(web.deed_of(node))

    def test_runs(self):
        for book, program in programs(12):
            web = Web(book)
            try:
                root = unfold(web, program)
            except TooLarge:
                continue
            other = web.make(("ret", "999"), ())
            for layer, kind in self.failings_that_can_be_caught(book):
                node = caught(web, root, layer, kind, other)
                for start in starts(book):
                    for script in scripts(layer, 4):
                        self.assertEqual(
                            run_web(web, node, start=start, script=script),
                            self.outcome_by_restoring(
                                web, root, layer, kind, other, start, script))

    def failings_that_can_be_caught(self, book):
        words = [layer[0] for layer in book.layers]
        for at, word in enumerate(words):
            if word == "fail" and "outside" not in words[at:]:
                for kind in range(book.layers[at][2]):
                    yield at + 1, kind

    def test_a_state_from_the_middle_of_a_run(self):
        book = Book("none", [("fail", "f", 1), ("cell", "c", 2), ("note", "n", SIGNS)])
        text = ("main = (let a (put c 1) (let b (note n 1) (try f 0 "
                "(let d (put c 0) (let e (note n 1) (fail f 0))) (get c))))")
        program = read_program(text)
        web = Web(book)
        node = unfold(web, program)
        told = ((), ("done", "1", (0, 1, 1)))
        self.assertEqual(run_web(web, node, start=(0, 0, 0)), told)
        self.assertEqual(run(book, program, start=(0, 0, 0)), told)


if __name__ == "__main__":
    unittest.main()
