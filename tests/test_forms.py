import unittest

from besideandthrough.bodies import only, settled
from besideandthrough.books import Book
from besideandthrough.errors import TooLarge
from besideandthrough.forms import Evaluator, body_at, form_of
from besideandthrough.points import point_of
from besideandthrough.states import starts
from besideandthrough.webruns import ways
from besideandthrough.webs import Web
from besideandthrough.webtexts import read_web
from tests import normal
from tests.helpers import KERNELS, LEFT, SIGNS, remade, wide_book
from tests.nodes import all_nodes, books


def done(text, *entries):
    return ("done", text, entries)


def point(end):
    return (1, ((end, 1),))


def bow(many):
    """A node that chooses among share points of which none is a mixture of the others."""
    web = Web(Book("spread", ()))
    rets = [web.make(("ret", str(at)), ()) for at in range(3)]
    nodes = []
    for at in range(1, many + 1):
        rest = web.make(("draw", 0, at, 97 - at * at), rets[1:])
        nodes.append(web.make(("draw", 0, at * at, 97), [rets[0], rest]))
    root = nodes[0]
    for node in nodes[1:]:
        root = web.make(("choose", 0), [root, node])
    return web, root


class Bodies(unittest.TestCase):
    def body(self, text, state, kernel="spread", book=None):
        web, root = read_web(book or wide_book(kernel), text)
        before = list(web)
        found = body_at(web, root, state)
        self.assertEqual(list(web), before)
        return found

    def test_the_example_of_the_document(self):
        web = Web(Book("none", [("cell", "c", 2)]))
        put = web.make(("put", 1, 0), [web.make(("ret", "1"), ())])
        node = web.make(("get", 1), [web.make(("ret", "0"), ()), put])
        self.assertEqual(form_of(web, node), (only(done("0", 0)), only(done("1", 0))))

    def test_ret_and_fail(self):
        for kernel in KERNELS:
            self.assertEqual(self.body("ret 7", (2, 1, 2, 0, 0), kernel),
                             only(done("7", 0, 1, 2, 0, 0)))
            self.assertEqual(self.body("fail 5 1", (2, 1, 2, 0, 0), kernel),
                             only(("fail", 5, 1, (0, 1, 2, 0))))

    def test_get_look_put_and_note(self):
        for kernel in KERNELS:
            rets = "ret 7\nret 8\nret 9\n"
            self.assertEqual(self.body("ret 7\nret 8\nget 2 : 0 1", (2, 1, 0, 0, 0), kernel),
                             only(done("8", 0, 1, 0, 0, 0)))
            self.assertEqual(self.body(rets + "look 1 : 0 1 2", (2, 1, 0, 0, 0), kernel),
                             only(done("9", 0, 1, 0, 0, 0)))
            self.assertEqual(self.body("ret 7\nput 2 0 : 0", (2, 1, 2, 0, 0), kernel),
                             only(done("7", 0, 0, 2, 0, 0)))
            # The entry stands to the left of the member, and absorbs it.
            self.assertEqual(self.body("ret 7\nnote 3 1 : 0", (2, 1, 2, 0, 0), kernel),
                             only(done("7", 0, 1, 2, 0, 0)))
            self.assertEqual(self.body("ret 7\nnote 3 1 : 0", (2, 1, 0, 0, 0), kernel),
                             only(done("7", 0, 1, 1, 0, 0)))

    def test_choices(self):
        seven, eight = point(done("7")), point(done("8"))
        for kernel, pieces in (("choose", 1), ("spread", 1), ("twochoose", 2), ("mixed", 1)):
            for piece in range(pieces):
                text = f"ret 8\nret 7\nchoose {piece} : 0 1"
                self.assertEqual(self.body(text, (), book=Book(kernel, ())), (seven, eight))
                text = f"ret 8\nchoose {piece} : 0 0"
                self.assertEqual(self.body(text, (), book=Book(kernel, ())), (eight,))

    def test_draws(self):
        seven, eight = done("7"), done("8")
        for kernel, pieces in (("draw", 1), ("spread", 1), ("twodraw", 2)):
            for piece in range(pieces):
                text = f"ret 8\nret 7\ndraw {piece} 1 3 : 0 1"
                self.assertEqual(self.body(text, (), book=Book(kernel, ())),
                                 ((3, ((seven, 2), (eight, 1))),))
        self.assertEqual(self.body("ret 8\nret 7\ndraw 0 1 3 : 0 1", (), book=Book("mixed", ())),
                         (point(seven), point(eight)))

    def test_draws_of_choices(self):
        # One result of each draw is chosen before, and mixtures of others are left out.
        text = ("ret 0\nret 1\nchoose 0 : 0 1\ndraw 0 1 2 : 0 1\nchoose 0 : 2 3\n"
                "draw 0 1 3 : 4 0")
        x, y = done("0"), done("1")
        self.assertEqual(self.body(text, (), book=Book("spread", ())),
                         (point(x), (3, ((x, 2), (y, 1)))))

    def test_an_ask(self):
        book = Book("none", [("note", "m", SIGNS), ("cell", "c", 2), ("outside", "o", (2, 1)),
                             ("note", "n", SIGNS), ("setting", "s", 2)])
        text = "ret 0\nnote 1 1 : 0\nget 2 : 0 1\nput 2 0 : 0\nask 3 0 : 2 3"
        part = (only(done("0", 0, 0, 0, 1, 0)), only(done("0", 1, 1, 0, 1, 0)))
        other = (only(done("0", 0, 0, 0, 1, 0)),) * 2
        # Beneath the layer the notes begin anew, above it they go on.
        self.assertEqual(self.body(text, (1, 1, 0, 1, 1), book=book),
                         only(("ask", 3, 0, (1, 1), (part, other))))

    def test_asks_within_each_other(self):
        book = Book("choose", [("outside", "p", (1,)), ("cell", "c", 2), ("outside", "o", (1,))])
        text = "ret 5\nask 1 0 : 0\nask 3 0 : 1\nchoose 0 : 2 0"
        inner = [only(("ask", 1, 0, (), ((only(done("5", 0, value, 0)),),))) for value in (0, 1)]
        outer = ("ask", 3, 0, (0, 1), ((inner[0], inner[1]),))
        self.assertEqual(self.body(text, (0, 1, 0), book=book),
                         (point(outer), point(done("5", 0, 1, 0))))

    def test_twelve_asks_within_each_other(self):
        book = Book("none", [("cell", "c", 2), ("outside", "o", (1,))])
        web = Web(book)
        node = web.make(("ret", "0"), ())
        for _ in range(12):
            node = web.make(("ask", 2, 0), [node])
        found = body_at(web, node, (1, 0))
        for _ in range(12):
            ((_, ((end, _),)),) = found
            self.assertEqual(end[:4], ("ask", 2, 0, (1,)))
            found = end[4][0][1]
        self.assertEqual(found, only(done("0", 1, 0)))

    def test_eight_and_nine_share_points(self):
        web, root = bow(8)
        self.assertEqual(len(body_at(web, root, ())), 8)
        self.assertEqual(len(form_of(web, root)[0]), 8)
        web, root = bow(9)
        evaluator = Evaluator(web)
        for call in (lambda: body_at(web, root, ()), lambda: form_of(web, root),
                     lambda: evaluator(root, ())):
            with self.assertRaises(TooLarge):
                call()
        # The evaluator goes on, and what it cannot find it refuses again.
        self.assertEqual(len(evaluator(web.children_of(root)[0], ())), 8)
        with self.assertRaises(TooLarge):
            evaluator(root, ())

    def test_too_large_only_where_it_is_used(self):
        web, root = bow(9)
        book = Book("spread", [("cell", "c", 2)])
        other = Web(book)
        numbers = remade(other, web)
        zero = other.make(("ret", "0"), ())
        get = other.make(("get", 1), [zero, numbers[root]])
        self.assertEqual(body_at(other, get, (0,)), only(done("0", 0)))
        with self.assertRaises(TooLarge):
            body_at(other, get, (1,))
        with self.assertRaises(TooLarge):
            form_of(other, get)
        put = other.make(("put", 1, 0), [get])
        self.assertEqual(form_of(other, put), (only(done("0", 0)),) * 2)

    def test_many_by_the_words_of_the_document(self):
        large = 0
        for web, nodes in all_nodes(12, 6):
            for node in nodes:
                try:
                    told = normal.form(web, node)
                except normal.TooMany:
                    large += 1
                    with self.assertRaises(TooLarge):
                        form_of(web, node)
                    continue
                self.assertEqual(form_of(web, node), told)
                for state in self.states(web.book):
                    try:
                        told = normal.told(normal.body(web, node, state))
                    except normal.TooMany:
                        continue
                    self.assertEqual(body_at(web, node, state), told)
        self.assertGreater(large, 0)

    def states(self, book):
        """Some states with notes other than 0."""
        for state in starts(book)[::3]:
            yield tuple(entry if layer[0] != "note" else len(layer[2]) - 1
                        for layer, entry in zip(book.layers, state))

    def test_bodies_and_ways(self):
        """Without asks, the ends of a body are those of the ways."""
        compared = 0
        for web, nodes in all_nodes(12, 5, seed=1):
            for node in nodes:
                if web.book.kernel != "spread" and not self.has_asks(web, node):
                    for start in starts(web.book):
                        compared += 1
                        self.judge_by_ways(web, node, start)
        self.assertGreater(compared, 500)

    def judge_by_ways(self, web, node, start):
        found = [(outcome[1], share) for _, share, outcome, _ in ways(web, node, start)]
        body = body_at(web, node, start)
        if web.book.kernel in ("draw", "twodraw"):
            den = 1
            for _, (_, each) in found:
                den *= each
            pairs = [(end, num * (den // each)) for end, (num, each) in found]
            self.assertEqual(body, (point_of(pairs),))
        else:
            self.assertEqual(body, settled("choose", [point(end) for end, _ in found]))

    def has_asks(self, web, node):
        waiting = [node]
        while waiting:
            node = waiting.pop()
            if web.deed_of(node)[0] == "ask":
                return True
            waiting.extend(web.children_of(node))
        return False


class Evaluators(unittest.TestCase):
    def setUp(self):
        self.web = Web(Book("choose", [("cell", "c", 2), ("note", "n", SIGNS)]))
        self.zero = self.web.make(("ret", "0"), ())
        self.one = self.web.make(("ret", "1"), ())
        self.put = self.web.make(("put", 1, 1), [self.zero])
        self.get = self.web.make(("get", 1), [self.put, self.one])

    def test_what_a_call_needs(self):
        evaluator = Evaluator(self.web)
        self.assertIs(evaluator.web, self.web)
        self.assertEqual(evaluator.worked, 0)
        # At the entry 1 the put is not needed.
        self.assertEqual(evaluator(self.get, (1, 0)), only(done("1", 1, 0)))
        self.assertEqual(evaluator.worked, 2)
        self.assertEqual(evaluator(self.get, (0, 0)), only(done("0", 1, 0)))
        self.assertEqual(evaluator.worked, 5)

    def test_a_pair_that_an_earlier_call_needed(self):
        evaluator = Evaluator(self.web)
        evaluator(self.put, (0, 0))
        self.assertEqual(evaluator.worked, 2)
        for _ in range(2):
            evaluator(self.get, (0, 0))
            self.assertEqual(evaluator.worked, 3)
        # From another state the put leads to the same pair.
        evaluator(self.put, (1, 0))
        self.assertEqual(evaluator.worked, 4)
        evaluator(self.zero, (1, 0))
        self.assertEqual(evaluator.worked, 4)
        evaluator(self.zero, (1, 1))
        self.assertEqual(evaluator.worked, 5)

    def test_a_pair_that_is_needed_several_times(self):
        node = self.web.make(("choose", 0), [self.put, self.put])
        node = self.web.make(("choose", 0), [node, self.put])
        evaluator = Evaluator(self.web)
        evaluator(node, (0, 0))
        self.assertEqual(evaluator.worked, 4)

    def test_the_web_may_grow(self):
        evaluator = Evaluator(self.web)
        evaluator(self.zero, (0, 0))
        node = self.web.make(("note", 2, 1), [self.zero])
        self.assertEqual(evaluator(node, (0, 0)), only(done("0", 0, 1)))
        self.assertEqual(evaluator.worked, 3)

    def test_an_ask_needs_all_states_below(self):
        web = Web(Book("none", [("cell", "c", 3), ("setting", "s", 2), ("outside", "o", (2,))]))
        zero = web.make(("ret", "0"), ())
        one = web.make(("ret", "1"), ())
        evaluator = Evaluator(web)
        evaluator(web.make(("ask", 3, 0), [zero, one]), (0, 0, 0))
        self.assertEqual(evaluator.worked, 13)
        evaluator(web.make(("ask", 3, 0), [zero, zero]), (1, 0, 0))
        self.assertEqual(evaluator.worked, 14)

    def test_a_large_tree_of_few_nodes(self):
        node = self.web.make(("choose", 0), [self.zero, self.one])
        for _ in range(2000):
            node = self.web.make(("choose", 0), [node, node])
        evaluator = Evaluator(self.web)
        self.assertEqual(len(evaluator(node, (0, 0))), 2)
        self.assertEqual(evaluator.worked, 2003)

    def test_many(self):
        for web, nodes in all_nodes(6, 5, seed=2):
            evaluator = Evaluator(web)
            needed = set()
            for node in nodes:
                for state in starts(web.book):
                    try:
                        found = evaluator(node, state)
                    except TooLarge:
                        evaluator = Evaluator(web)
                        needed = set()
                        continue
                    self.gather(web, node, state, needed)
                    self.assertEqual(evaluator.worked, len(needed))
                    self.assertEqual(found, body_at(web, node, state))

    def gather(self, web, node, state, needed):
        """All pairs that a call needs, by the words of the document."""
        if (node, state) in needed:
            return
        needed.add((node, state))
        deed = web.deed_of(node)
        children = web.children_of(node)
        if deed[0] in ("get", "look"):
            self.gather(web, children[state[deed[1] - 1]], state, needed)
        elif deed[0] in ("put", "note"):
            entries = list(state)
            table = web.book.layers[deed[1] - 1][2]
            entries[deed[1] - 1] = deed[2] if deed[0] == "put" else table[state[deed[1] - 1]][deed[2]]
            self.gather(web, children[0], tuple(entries), needed)
        else:
            states = [state]
            if deed[0] == "ask":
                states = normal.below(web.book, deed[1], state)
            for child in children:
                for each in states:
                    self.gather(web, child, each, needed)


class Forms(unittest.TestCase):
    def test_one_body_for_each_start(self):
        for book in books():
            web = Web(book)
            node = web.make(("ret", "3"), ())
            told = tuple(only(("done", "3", normal.kept(book, state, book.size + 1)))
                         for state in starts(book))
            self.assertEqual(form_of(web, node), told)

    def test_absorbing_notes(self):
        book = Book("none", [("note", "n", LEFT)])
        for first, second, product in ((1, 2, 1), (2, 1, 2), (0, 2, 2), (2, 0, 2)):
            web, root = read_web(book, f"ret 0\nnote 1 {second} : 0\nnote 1 {first} : 1")
            self.assertEqual(form_of(web, root), (only(done("0", product)),))


if __name__ == "__main__":
    unittest.main()
