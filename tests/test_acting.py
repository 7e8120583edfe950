import unittest

from besideandthrough.acting import act, body_in, form_from_ends, prefixed
from besideandthrough.bodies import only, settled
from besideandthrough.books import Book
from besideandthrough.errors import TooLarge
from besideandthrough.forms import body_at, form_of
from besideandthrough.points import point_of
from besideandthrough.states import starts
from besideandthrough.webs import Web, reached
from besideandthrough.webtexts import read_web
from tests.helpers import KERNELS, LEFT, SIGNS, remade
from tests.nodes import all_nodes, books
from tests.test_forms import bow

# Notes above and beneath a layer of failings and one that asks.
BOOK = Book("spread", [("note", "m", LEFT), ("cell", "c", 2), ("outside", "o", (2,)),
                       ("note", "n", LEFT), ("fail", "f", 2)])


def done(text, *entries):
    return ("done", text, entries)


def forms_or_none(call, *given):
    try:
        return call(*given)
    except TooLarge:
        return None


def member_states(book):
    """The start states with all members at the note layers."""
    found = [()]
    for word, _, extent in book.layers:
        many = {"cell": extent, "setting": extent}.get(word, 1)
        many = len(extent) if word == "note" else many
        found = [(*row, entry) for row in found for entry in range(many)]
    return found


class Prefixing(unittest.TestCase):
    def test_results_and_failings(self):
        for kernel in KERNELS:
            book = Book(kernel, BOOK.layers)
            self.assertEqual(prefixed(book, only(done("0", 0, 1, 0, 2, 0)), [1, 0, 0, 1, 0]),
                             only(done("0", 1, 1, 0, 1, 0)))
            # The number stands to the left, and absorbs the entry.
            self.assertEqual(prefixed(book, only(done("0", 2, 1, 0, 0, 0)), (1, 0, 0, 2, 0)),
                             only(done("0", 1, 1, 0, 2, 0)))
            # Of a failing nothing is kept above its layer.
            self.assertEqual(prefixed(book, only(("fail", 5, 1, (2, 1, 0, 2))), (0, 0, 0, 1, 0)),
                             only(("fail", 5, 1, (2, 1, 0, 1))))

    def test_no_notes(self):
        body = settled("spread", [(1, ((done("0", 2, 1, 0, 2, 0), 1),)),
                                  (1, ((done("1", 2, 1, 0, 2, 0), 1),))])
        self.assertEqual(prefixed(BOOK, body, (0,) * 5), body)

    def test_above_and_beneath_an_ask(self):
        inner = done("0", 2, 1, 0, 2, 0)
        ask = ("ask", 3, 0, (0, 1), ((only(inner), only(inner)), (only(inner),) * 2))
        found = prefixed(BOOK, only(ask), (1, 0, 0, 1, 0))
        # Beneath the layer the children begin anew.
        behind = only(done("0", 2, 1, 0, 1, 0))
        self.assertEqual(found, only(("ask", 3, 0, (1, 1), ((behind,) * 2, (behind,) * 2))))
        self.assertEqual(prefixed(BOOK, only(ask), (1, 0, 0, 0, 0)),
                         only(("ask", 3, 0, (1, 1), ask[4])))

    def test_asks_within_an_ask(self):
        book = Book("none", [("note", "k", SIGNS), ("outside", "p", (1,)), ("note", "m", SIGNS),
                             ("outside", "o", (1,)), ("note", "n", SIGNS)])

        def asks(*entries):
            last = only(done("0", entries[3], 0, entries[4], 0, entries[5]))
            inner = only(("ask", 2, 0, (entries[1],), ((last,),)))
            outer = only(("ask", 4, 0, (0, 0, entries[2], 0), ((inner,),)))
            return only(("ask", 2, 0, (entries[0],), ((outer,),)))

        # Notes of m go on behind the outer p up to the o, and those of n to the end.
        self.assertEqual(prefixed(book, asks(0, 0, 0, 0, 0, 0), (1, 0, 1, 0, 1)),
                         asks(1, 0, 1, 0, 0, 1))

    def test_ends_that_become_equal(self):
        one, other = done("0", 1, 0, 0, 0, 0), done("0", 2, 0, 0, 0, 0)
        third = done("1", 0, 0, 0, 0, 0)
        notes = (1, 0, 0, 0, 0)
        body = settled("spread", [(1, ((one, 1),)), (1, ((other, 1),))])
        self.assertEqual(prefixed(BOOK, body, notes), only(one))
        # What was a corner has become a mixture of others.
        body = settled("spread", [point_of([(one, 1), (third, 1)]), (1, ((other, 1),)),
                                  (1, ((third, 1),))])
        self.assertEqual(len(body), 3)
        self.assertEqual(prefixed(BOOK, body, notes),
                         settled("spread", [(1, ((one, 1),)),
                                            (1, ((done("1", 1, 0, 0, 0, 0), 1),))]))
        body = (point_of([(one, 1), (other, 2)]),)
        self.assertEqual(prefixed(Book("draw", BOOK.layers), body, notes), only(one))

    def test_what_is_passed_stays(self):
        notes = [1, 0, 0, 1, 0]
        prefixed(BOOK, only(done("0", 0, 0, 0, 0, 0)), notes)
        self.assertEqual(notes, [1, 0, 0, 1, 0])

    def test_many(self):
        """The body at a state with notes is that without them, with the notes ahead."""
        for web, nodes in all_nodes(6, 5, seed=3):
            for node in nodes:
                form = forms_or_none(form_of, web, node)
                for state in member_states(web.book) if form else ():
                    told = forms_or_none(body_at, web, node, state)
                    if told is not None:
                        self.assertEqual(body_in(web.book, form, state), told)


class Acting(unittest.TestCase):
    def test_results_and_failings(self):
        for book in books():
            deeds = [("ret", "(0 1)")]
            deeds += [("fail", at + 1, 0) for at, layer in enumerate(book.layers)
                      if layer[0] == "fail"]
            for deed in deeds:
                web = Web(book)
                self.assertEqual(act(book, deed, ()), form_of(web, web.make(deed, ())))
                self.assertEqual(act(book, deed, []), form_of(web, web.make(deed, ())))

    def test_each_deed(self):
        """Acting and the forms of the children tell the form of a node."""
        words = {}
        for web, nodes in all_nodes(10, 4, seed=4):
            for root in nodes:
                for node in reached(web, root):
                    forms = [forms_or_none(form_of, web, child) for child in web.children_of(node)]
                    if None in forms:
                        continue
                    before = list(forms)
                    deed = web.deed_of(node)
                    words.setdefault(web.book.kernel, set()).add(deed[0])
                    told = forms_or_none(form_of, web, node)
                    if told is not None:
                        found = act(web.book, deed, forms)
                        self.assertEqual(found, told)
                        self.assertEqual(act(web.book, deed, tuple(forms)), told)
                    self.assertEqual(forms, before)
        common = {"ret", "fail", "get", "look", "put", "note", "ask"}
        for kernel in KERNELS:
            self.assertEqual(words[kernel] & common, common)

    def test_a_put_leads_to_another_start(self):
        book = Book("none", [("cell", "c", 2)])
        form = (only(done("0", 0)), only(done("1", 0)))
        self.assertEqual(act(book, ("put", 1, 1), [form]), (form[1], form[1]))
        self.assertEqual(act(book, ("get", 1), [form, (form[1], form[0])]), (form[0], form[0]))

    def test_too_large(self):
        web, root = bow(9)
        one, other = [form_of(web, child) for child in web.children_of(root)]
        with self.assertRaises(TooLarge):
            act(web.book, ("choose", 0), (one, other))
        with self.assertRaises(TooLarge):
            form_from_ends(web, root)


class FromEnds(unittest.TestCase):
    def test_many(self):
        found = 0
        for web, nodes in all_nodes(10, 6, seed=5):
            for node in nodes:
                before = list(web)
                form = forms_or_none(form_from_ends, web, node)
                self.assertEqual(list(web), before)
                if form is not None:
                    found += 1
                    self.assertEqual(form, form_of(web, node))
        self.assertGreater(found, 400)

    def test_too_large_behind_what_is_not_reached(self):
        small, root = bow(9)
        book = Book("spread", [("cell", "c", 2)])
        web = Web(book)
        numbers = remade(web, small)
        get = web.make(("get", 1), [web.make(("ret", "0"), ()), numbers[root]])
        put = web.make(("put", 1, 0), [get])
        self.assertEqual(form_of(web, put), (only(done("0", 0)),) * 2)
        with self.assertRaises(TooLarge):
            form_from_ends(web, put)

    def test_notes_of_a_chain(self):
        book = Book("none", [("note", "n", LEFT), ("outside", "o", (1,)), ("note", "k", LEFT)])
        web, root = read_web(book, "\n".join([
            "ret 0", "note 3 1 : 0", "note 1 2 : 1", "ask 2 0 : 2", "note 3 2 : 3",
            "note 1 1 : 4"]))
        told = only(("ask", 2, 0, (1,), ((only(done("0", 2, 0, 2)),),)))
        self.assertEqual(form_of(web, root), (told,))
        self.assertEqual(form_from_ends(web, root), (told,))


class BodiesInForms(unittest.TestCase):
    def test_the_start_with_the_same_cells_and_settings(self):
        book = Book("none", [("cell", "c", 2), ("note", "n", SIGNS), ("setting", "s", 2)])
        form = tuple(only(done(str(at), start[0], 0, 0)) for at, start in enumerate(starts(book)))
        self.assertEqual(body_in(book, form, (1, 0, 0)), only(done("2", 1, 0, 0)))
        self.assertEqual(body_in(book, form, (0, 1, 1)), only(done("1", 0, 1, 0)))


if __name__ == "__main__":
    unittest.main()
