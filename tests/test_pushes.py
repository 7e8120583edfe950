import unittest

from besideandthrough.acting import act, form_from_ends
from besideandthrough.books import Book
from besideandthrough.drafts import Draft
from besideandthrough.errors import TooLarge
from besideandthrough.pushes import push
from besideandthrough.terms import term_of
from besideandthrough.webs import Web
from besideandthrough.webtexts import write_web
from tests.building import led
from tests.helpers import KERNELS, LEFT, SIGNS, node_of
from tests.nodes import all_nodes, deeds_of

# Asks, failings and settings beneath and above cells and notes.
BOOK = Book("spread", [("note", "m", SIGNS), ("outside", "o", (2,)), ("cell", "c", 2),
                       ("fail", "f", 1), ("note", "n", LEFT)])


class Pushing(unittest.TestCase):
    def judge(self, draft, deed, form):
        """Pushes a deed into the term of a form."""
        web = draft.web
        term = term_of(web, form)
        left, right = led(self, draft, push, deed, term)
        self.assertEqual((web.deed_of(left), web.children_of(left)), (deed, (term,)))
        self.assertEqual(right, term_of(web, act(web.book, deed, [form])))
        return right

    def test_all_puts_and_notes(self):
        seen = set()
        for web, nodes in all_nodes(4, 3, seed=40):
            draft = Draft(web)
            deeds = [deed for deed in deeds_of(web.book) if deed[0] in ("put", "note")]
            for node in nodes:
                try:
                    form = form_from_ends(web, node)
                except TooLarge:
                    continue
                for deed in deeds:
                    self.judge(draft, deed, form)
                    seen.add((web.book.kernel, deed[0]))
        self.assertEqual(seen, {(kernel, word) for kernel in KERNELS for word in ("put", "note")})

    def test_into_asks_fails_and_settings(self):
        text = ("ret 0\nret 1\nput 3 1 : 1\nchoose 0 : 0 2\nfail 4 0\nnote 5 2 : 0\nget 3 : 5 4\n"
                "draw 0 1 3 : 3 6\nask 2 0 : 7 4\nnote 1 1 : 8\nchoose 0 : 9 6")
        web = Web(BOOK)
        node = node_of(web, text)
        draft = Draft(web)
        form = form_from_ends(web, node)
        for deed in (("put", 3, 0), ("put", 3, 1), ("note", 1, 1), ("note", 5, 1), ("note", 5, 2),
                     ("note", 5, 0)):
            self.judge(draft, deed, form)

    def test_through_settings(self):
        """Settings beneath and above, which asks and fails hide or leave as they are."""
        layers = [("setting", "s", 2), ("cell", "c", 2), ("outside", "o", (2,)), ("fail", "f", 1),
                  ("note", "n", LEFT)]
        text = ("ret 0\nfail 4 0\nput 2 1 : 0\nlook 1 : 1 2\nnote 5 1 : 3\nget 2 : 3 0\n"
                "ask 3 0 : 4 5\nlook 1 : 6 2\nput 2 0 : 7\nget 2 : 8 6")
        for kernel in KERNELS:
            web = Web(Book(kernel, layers))
            draft = Draft(web)
            form = form_from_ends(web, node_of(web, text))
            for deed in (("put", 2, 0), ("put", 2, 1), ("note", 5, 0), ("note", 5, 2)):
                self.judge(draft, deed, form)

    def test_a_note_that_makes_ends_equal(self):
        book = Book("choose", [("note", "n", LEFT)])
        web = Web(book)
        node = node_of(web, "ret 0\nnote 1 1 : 0\nnote 1 2 : 0\nchoose 0 : 1 2")
        right = self.judge(Draft(web), ("note", 1, 1), form_from_ends(web, node))
        self.assertEqual(write_web(web, right), "ret 0\nnote 1 1 : 0")

    def test_a_note_that_leaves_a_mixture(self):
        book = Book("spread", [("note", "n", LEFT)])
        web = Web(book)
        node = node_of(web, "ret 0\nret 1\nnote 1 1 : 0\nnote 1 2 : 1\nnote 1 1 : 1\n"
                            "draw 0 1 2 : 2 3\nchoose 0 : 2 4\nchoose 0 : 5 6")
        form = form_from_ends(web, node)
        self.assertEqual(len(form[0]), 3)
        self.judge(Draft(web), ("note", 1, 2), form)
        self.assertEqual(len(act(book, ("note", 1, 2), [form])[0]), 2)

    def test_a_put_goes_to_the_child_of_its_value(self):
        book = Book("none", [("cell", "c", 3), ("setting", "s", 2)])
        web = Web(book)
        node = node_of(web, "ret 0\nret 1\nlook 2 : 0 1\nput 1 0 : 1\nget 1 : 0 2 3")
        right = self.judge(Draft(web), ("put", 1, 1), form_from_ends(web, node))
        self.assertEqual(write_web(web, right),
                         "ret 0\nput 1 1 : 0\nget 1 : 1 1 1\nret 1\nput 1 1 : 3\n"
                         "get 1 : 4 4 4\nlook 2 : 2 5")

    def test_a_long_body(self):
        web = Web(Book("choose", [("cell", "c", 2), ("note", "n", SIGNS)]))
        tree = web.make(("ret", "0"), ())
        for at in range(1, 500):
            tree = web.make(("choose", 0), [web.make(("ret", str(at)), ()), tree])
        form = form_from_ends(web, tree)
        for deed in (("put", 1, 1), ("note", 2, 1)):
            self.judge(Draft(web), deed, form)


if __name__ == "__main__":
    unittest.main()
