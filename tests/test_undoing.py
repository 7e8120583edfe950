import unittest

from besideandthrough.bodies import ends_of
from besideandthrough.books import Book
from besideandthrough.errors import TooLarge
from besideandthrough.forms import form_of
from besideandthrough.states import starts
from besideandthrough.terms import term_of
from besideandthrough.undoing import redone, undone
from besideandthrough.webs import Web
from besideandthrough.webtexts import write_web
from tests.helpers import KERNELS, LEFT, SIGNS, node_of
from tests.nodes import Nodes, all_nodes
from tests.test_leading import NINE
from tests.trees import node_for, replaced, tree_of

LAYERS = (("setting", "s", 2), ("cell", "c", 2), ("note", "n", SIGNS))
# Notes that rotate: the inverse of 1 is 2.
THIRDS = ((0, 1, 2), (1, 2, 0), (2, 0, 1))
FLIP = "ret 0\nput 2 1 : 0\nput 2 0 : 0\nget 2 : 1 2"


def entries_of(book, word, entries):
    return tuple(entry for row, entry in zip(book.layers, entries) if row[0] == word)


def ends_by_start(book, form):
    return [(start, end) for start, body in zip(starts(book), form) for end in ends_of(body)]


def inverses(book, entries):
    """For each note layer the member that undoes the entry, or None."""
    found = []
    for (word, _, table), entry in zip(book.layers, entries):
        if word == "note":
            found.append(next((i for i in range(len(table)) if table[entry][i] == 0), None))
    return found


def can_be_undone(book, form):
    """The words of point [125]."""
    ends = ends_by_start(book, form)
    for _, end in ends:
        if end[0] != "done" or None in inverses(book, end[2]):
            return False
    for start, (_, text, kept) in ends:
        for other, (_, again, beside) in ends:
            if text != again:
                continue
            if entries_of(book, "cell", kept) != entries_of(book, "cell", beside):
                continue
            if entries_of(book, "setting", start) != entries_of(book, "setting", other):
                continue
            if entries_of(book, "cell", start) != entries_of(book, "cell", other):
                return False
            if entries_of(book, "note", kept) != entries_of(book, "note", beside):
                return False
    return True


def form_behind(book, form, text):
    """The form of point [126] for a text."""
    bodies = []
    for state in starts(book):
        kept = [0 if row[0] == "setting" else entry for row, entry in zip(book.layers, state)]
        for start, end in ends_by_start(book, form):
            if end[1] == text and all(
                    end[2][at] == state[at] for at, row in enumerate(book.layers)
                    if row[0] == "cell") and entries_of(book, "setting", start) == entries_of(
                    book, "setting", state):
                members = iter(inverses(book, end[2]))
                kept = [start[at] if row[0] == "cell" else next(members) if row[0] == "note" else 0
                        for at, row in enumerate(book.layers)]
        bodies.append(((1, ((("done", "0", tuple(kept)), 1),)),))
    return tuple(bodies)


class Undoing(unittest.TestCase):
    def judge(self, web, root):
        """Undoes a program by the words of points [125] and [126]."""
        form = form_of(web, root)
        before = list(web)
        pairs = undone(web, root)
        self.assertEqual(list(web)[:len(before)], before)
        self.assertEqual(pairs is not None, can_be_undone(web.book, form))
        if pairs is None:
            return None
        self.assertIsInstance(pairs, tuple)
        texts = sorted({end[1] for _, end in ends_by_start(web.book, form)})
        self.assertEqual([text for text, _ in pairs], texts)
        for text, node in pairs:
            self.assertEqual(node, term_of(web, form_behind(web.book, form, text)))
        whole = redone(web, root, pairs)
        tree = replaced(tree_of(web, root), {text: tree_of(web, node) for text, node in pairs})
        self.assertEqual(whole, node_for(web, tree))
        self.assertEqual(form_of(web, whole), form_of(web, web.make(("ret", "0"), ())))
        return pairs

    def undo(self, text, layers=LAYERS):
        """Whether a program can be undone in a book of each kernel."""
        found = set()
        for kernel in KERNELS:
            web = Web(Book(kernel, layers))
            found.add(self.judge(web, node_of(web, text)) is not None)
        self.assertEqual(len(found), 1)
        return found.pop()

    def test_programs_that_can_be_undone(self):
        for text in ("ret 0", "ret 7", FLIP, "ret 0\nnote 3 1 : 0",
                     # The old entry is told.
                     "ret 0\nput 2 1 : 0\nret 1\nput 2 1 : 2\nget 2 : 1 3",
                     # The setting tells it.
                     "ret 0\nput 2 1 : 0\nput 2 0 : 0\nget 2 : 1 2\nlook 1 : 0 3",
                     # Different notes, with different results.
                     "ret 0\nret 1\nnote 3 1 : 1\nget 2 : 0 2",
                     # The same result, with different notes and different cells.
                     "ret 0\nnote 3 1 : 0\nget 2 : 0 1", FLIP + "\nnote 3 1 : 3"):
            with self.subTest(text):
                self.assertTrue(self.undo(text))

    def test_programs_that_cannot_be_undone(self):
        for text in ("ret 0\nput 2 1 : 0", "ret 0\nret 1\nput 2 0 : 1\nlook 1 : 0 2",
                     "ret 0\nput 2 1 : 0\nnote 3 1 : 1\nget 2 : 2 0"):
            with self.subTest(text):
                self.assertFalse(self.undo(text))

    def test_notes_without_inverses(self):
        layers = (("note", "n", LEFT), ("cell", "c", 2))
        self.assertFalse(self.undo("ret 0\nnote 1 1 : 0", layers))
        self.assertFalse(self.undo("ret 0\nret 1\nnote 1 2 : 1\nget 2 : 0 2", layers))
        self.assertTrue(self.undo("ret 0\nnote 1 0 : 0", layers))
        layers = (("note", "n", THIRDS), ("cell", "c", 2))
        self.assertTrue(self.undo("ret 0\nnote 1 1 : 0", layers))
        self.assertTrue(self.undo("ret 0\nret 1\nnote 1 2 : 1\nget 2 : 0 2", layers))
        web = Web(Book("none", layers))
        pairs = undone(web, node_of(web, "ret 0\nnote 1 1 : 0"))
        self.assertEqual(write_web(web, pairs[0][1]).split("\n")[1], "note 1 2 : 0")

    def test_notes_that_differ(self):
        web = Web(Book("choose", [("note", "n", SIGNS)]))
        self.assertIsNone(self.judge(web, node_of(web, "ret 0\nnote 1 1 : 0\nchoose 0 : 0 1")))
        pairs = self.judge(web, node_of(web, "ret 0\nret 1\nnote 1 1 : 1\nchoose 0 : 0 2"))
        self.assertEqual([text for text, _ in pairs], ["0", "1"])

    def test_ends_that_are_not_done(self):
        layers = (("cell", "c", 2), ("outside", "o", (2, 1)), ("fail", "f", 1))
        for text, found in (("fail 3 0", False), ("ret 0\nask 2 1 : 0", False),
                            ("ret 0\nfail 3 0\nget 1 : 0 1", False),
                            # The failing is never met.
                            ("ret 0\nfail 3 0\nget 1 : 1 0\nget 1 : 2 0", False),
                            ("ret 0\nfail 3 0\nget 1 : 0 1\nget 1 : 2 0", True)):
            with self.subTest(text):
                self.assertIs(self.undo(text, layers), found)

    def test_choices_and_draws(self):
        for kernel, text in (("choose", "choose 0"), ("draw", "draw 0 1 3"), ("spread", "draw 0 1 2"),
                             ("twodraw", "draw 1 1 2"), ("mixed", "draw 0 1 2"),
                             ("twochoose", "choose 1")):
            web = Web(Book(kernel, [("cell", "c", 2)]))
            flip = "ret 0\nput 1 1 : 0\nput 1 0 : 0\nget 1 : 1 2\nret 1\n"
            self.assertIsNotNone(self.judge(web, node_of(web, flip + text + " : 3 4")))
            self.assertIsNone(self.judge(web, node_of(web, flip + text + " : 3 0")))

    def test_random_programs(self):
        told = {True: set(), False: set()}
        for web, nodes in all_nodes(8, 3, seed=110):
            for node in nodes:
                try:
                    found = self.judge(web, node)
                except TooLarge:
                    continue
                told[found is not None].add(web.book.kernel)
        for kernel in KERNELS:
            made = Nodes(Book(kernel, [("setting", "s", 2), ("cell", "c", 2), ("note", "n", THIRDS)]), 7)
            for node in made.nodes(60, 3):
                told[self.judge(made.web, node) is not None].add(kernel)
        self.assertEqual(told, {True: set(KERNELS), False: set(KERNELS)})

    def test_redoing_with_other_pairs(self):
        web = Web(Book("none", [("cell", "c", 2)]))
        node = node_of(web, "ret 0\nret 1\nget 1 : 0 1")
        put = node_of(web, "ret 0\nput 1 1 : 0")
        self.assertEqual(redone(web, node, ()), node)
        self.assertEqual(write_web(web, redone(web, node, (("1", put), ("5", 0)))),
                         "ret 0\nput 1 1 : 0\nget 1 : 0 1")

    def test_too_large(self):
        web = Web(Book("spread", ()))
        with self.assertRaises(TooLarge):
            undone(web, node_of(web, NINE))


if __name__ == "__main__":
    unittest.main()
