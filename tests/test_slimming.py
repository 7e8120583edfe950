import random
import unittest

from besideandthrough.books import Book
from besideandthrough.drafts import Draft
from besideandthrough.errors import TooLarge
from besideandthrough.forms import form_of
from besideandthrough.papers import Paper, judge
from besideandthrough.slimming import slim, slimmed
from besideandthrough.states import starts
from besideandthrough.webs import Web, reached, ways_on
from besideandthrough.webtexts import write_web
from tests import slim as words
from tests.building import led
from tests.helpers import KERNELS, LEFT, SIGNS, node_of
from tests.nodes import all_nodes, deeds_of
from tests.test_leading import NINE

BOOKS = (
    (("cell", "c", 2),),
    (("cell", "c", 2), ("cell", "d", 3)),
    (("note", "n", LEFT), ("cell", "c", 2)),
    (("fail", "f", 1), ("note", "n", SIGNS), ("cell", "c", 2)),
    (("setting", "s", 2), ("outside", "o", (2,)), ("cell", "c", 2)),
    (("cell", "c", 2), ("outside", "o", (2, 1)), ("note", "n", SIGNS)),
    (("cell", "c", 2), ("note", "n", LEFT), ("outside", "o", (2,)), ("fail", "f", 1),
     ("cell", "d", 2)),
)
# In this book layer 1 is a setting, 2 and 5 are cells, 3 is a note layer and 4 an outside.
LAYERS = (("setting", "s", 2), ("cell", "c", 2), ("note", "n", LEFT), ("outside", "o", (2,)),
          ("cell", "d", 3))


def dense_nodes(kernel, layers, generator, many=12):
    """A web with nodes over few others, so that many of them are needless."""
    book = Book(kernel, layers)
    web = Web(book)
    deeds = deeds_of(book)
    ends = [deed for deed in deeds if ways_on(book, deed) == 0]
    inner = [deed for deed in deeds if ways_on(book, deed) > 0]
    nodes = [web.make(deed, ()) for deed in generator.sample(ends, 3)]
    sorts = sorted({deed[0] for deed in inner})
    for _ in range(generator.randint(3, many)):
        sort = generator.choice(sorts)
        deed = generator.choice([deed for deed in inner if deed[0] == sort])
        nodes.append(web.make(deed, [generator.choice(nodes[-5:]) for _ in range(ways_on(book, deed))]))
    return web, nodes


class Slimming(unittest.TestCase):
    def judge(self, web, node):
        """Slims a node by the words of points [115] to [118]; returns what was needless."""
        needless = words.needless(web, node)
        before = list(web)
        found, paper = slimmed(web, node)
        self.assertEqual(list(web)[:len(before)], before)
        self.assertIsInstance(paper, Paper)
        self.assertIs(paper.web, web)
        self.assertEqual(judge(paper), (node, found))
        self.assertEqual(words.needless(web, found), set())
        if needless:
            self.assertLess(web.size_of(found), web.size_of(node))
        else:
            self.assertEqual(found, node)
        self.assertLessEqual(words.longest(web, found), words.longest(web, node))
        for start in starts(web.book):
            self.same_runs(words.runs(web, node, start), words.runs(web, found, start))
        again, _ = slimmed(web, found)
        self.assertEqual(again, found)
        self.assertEqual(led(self, Draft(web), slim, node), (node, found))
        return needless

    def same_runs(self, old, new):
        self.assertEqual(set(old), set(new))
        for outcome, (least, most) in new.items():
            # A run of the slim node has a counterpart with as many deeds or more, and a
            # run of the node has one with as many deeds or fewer.
            self.assertLessEqual(most, old[outcome][1])
            self.assertLessEqual(least, old[outcome][0])

    def check(self, kernel, text, wanted, sorts):
        web = Web(Book(kernel, LAYERS))
        node = node_of(web, text)
        self.assertEqual(self.judge(web, node), set(sorts))
        found, _ = slimmed(web, node)
        self.assertEqual(write_web(web, found), wanted)

    def test_known_reads(self):
        for text, wanted in (
            ("ret 0\nret 1\nget 2 : 0 1\nput 2 1 : 2", "ret 1\nput 2 1 : 0"),
            ("ret 0\nret 1\nlook 1 : 0 1\nret 2\nlook 1 : 3 2", "ret 2\nret 1\nlook 1 : 0 1"),
            # Deeds of other layers stand between, also an ask beneath the layer.
            ("ret 0\nret 1\nret 2\nget 5 : 0 1 2\nask 4 0 : 3 0\nnote 3 1 : 4\nput 5 2 : 5",
             "ret 2\nret 0\nask 4 0 : 0 1\nnote 3 1 : 2\nput 5 2 : 3"),
        ):
            self.check("none", text, wanted, ["read"])

    def test_an_ask_of_a_layer_above_hides_an_entry(self):
        for text in ("ret 0\nret 1\nget 2 : 0 1\nask 4 0 : 2 0\nput 2 1 : 3",
                     "ret 0\nret 1\nlook 1 : 0 1\nask 4 0 : 2 0\nlook 1 : 3 0",
                     "ret 0\nput 2 1 : 0\nret 1\nask 4 0 : 1 2\nput 2 1 : 3"):
            self.check("none", text, text, [])

    def test_known_puts(self):
        for text, wanted in (
            ("ret 0\nnote 3 1 : 0\nput 2 1 : 1\nput 2 1 : 2",
             "ret 0\nnote 3 1 : 0\nput 2 1 : 1"),
            ("ret 0\nput 2 0 : 0\nnote 3 1 : 1\nret 1\nget 2 : 2 3",
             "ret 0\nnote 3 1 : 0\nret 1\nget 2 : 1 2"),
        ):
            web = Web(Book("none", LAYERS))
            self.assertIn("known put", self.judge(web, node_of(web, text)))
            self.assertEqual(write_web(web, slimmed(web, node_of(web, text))[0]), wanted)

    def test_a_node_that_is_known_on_one_of_two_paths(self):
        # The same node stands behind both ways of a choose, and is read anew on one of them.
        self.check("choose", "ret 0\nret 1\nget 2 : 0 1\nput 2 1 : 2\nchoose 0 : 2 3",
                   "ret 0\nret 1\nget 2 : 0 1\nput 2 1 : 1\nchoose 0 : 2 3", ["read"])

    def test_overtaken_writes(self):
        for kernel, text, wanted in (
            ("none", "ret 0\nput 2 1 : 0\nput 2 0 : 1", "ret 0\nput 2 1 : 0"),
            ("none", "ret 0\nnote 3 2 : 0\nnote 3 1 : 1", "ret 0\nnote 3 1 : 0"),
            ("choose", "ret 0\nput 2 1 : 0\nret 1\nput 2 1 : 2\nlook 1 : 1 3\nnote 3 1 : 4\n"
                       "put 2 0 : 5", "ret 0\nret 1\nlook 1 : 0 1\nput 2 1 : 2\nnote 3 1 : 3"),
            # The ask is beneath the layer.
            ("none", "ret 0\nput 5 1 : 0\nret 1\nput 5 2 : 2\nask 4 0 : 1 3\nput 5 0 : 4",
             "ret 0\nput 5 1 : 0\nret 1\nput 5 2 : 2\nask 4 0 : 1 3"),
        ):
            web = Web(Book(kernel, LAYERS))
            node = node_of(web, text)
            self.assertIn("overtaken", self.judge(web, node))
            self.assertEqual(write_web(web, slimmed(web, node)[0]), wanted)

    def test_writes_that_are_not_overtaken(self):
        for text in ("ret 0\nput 2 1 : 0\nask 4 0 : 1 0\nput 2 0 : 2",
                     "ret 0\nnote 3 2 : 0\nret 1\nask 4 0 : 1 2\nnote 3 1 : 3",
                     "ret 0\nput 2 1 : 0\nret 1\nlook 1 : 1 2\nput 2 0 : 3"):
            self.check("none", text, text, [])

    def test_writes_before_a_failing(self):
        layers = (("note", "m", SIGNS), ("fail", "f", 1), ("cell", "c", 2), ("note", "n", LEFT))
        web = Web(Book("choose", layers))
        for text, wanted in (
            ("fail 2 0\nput 3 1 : 0", "fail 2 0"),
            ("fail 2 0\nnote 4 1 : 0", "fail 2 0"),
            ("fail 2 0\nnote 1 1 : 0", "fail 2 0\nnote 1 1 : 0"),
            ("fail 2 0\nret 0\nput 3 1 : 1\nchoose 0 : 0 2\nput 3 0 : 3",
             "fail 2 0\nret 0\nput 3 1 : 1\nchoose 0 : 0 2"),
            ("fail 2 0\nret 0\nchoose 0 : 0 1\nput 3 0 : 2",
             "fail 2 0\nret 0\nchoose 0 : 0 1\nput 3 0 : 2"),
        ):
            with self.subTest(text):
                node = node_of(web, text)
                self.judge(web, node)
                self.assertEqual(write_web(web, slimmed(web, node)[0]), wanted)

    def test_the_unit_and_equal_children(self):
        for kernel, text, wanted, sort in (
            ("none", "ret 0\nnote 3 0 : 0", "ret 0", "unit"),
            ("none", "ret 0\nlook 1 : 0 0", "ret 0", "same"),
            ("none", "ret 0\nget 5 : 0 0 0", "ret 0", "same"),
            ("choose", "ret 0\nchoose 0 : 0 0", "ret 0", "same"),
            ("twochoose", "ret 0\nchoose 1 : 0 0", "ret 0", "same"),
            ("draw", "ret 0\ndraw 0 1 7 : 0 0", "ret 0", "same"),
            ("twodraw", "ret 0\ndraw 1 1 5 : 0 0", "ret 0", "same"),
            ("mixed", "ret 0\ndraw 0 1 6 : 0 0", "ret 0", "same"),
            ("spread", "ret 0\ndraw 0 1 7 : 0 0\nchoose 0 : 0 1", "ret 0", "same"),
        ):
            web = Web(Book(kernel, LAYERS))
            node = node_of(web, text)
            self.assertEqual(self.judge(web, node), {sort})
            self.assertEqual(write_web(web, slimmed(web, node)[0]), wanted)
        # An ask is never needless.
        self.check("none", "ret 0\nask 4 0 : 0 0", "ret 0\nask 4 0 : 0 0", [])

    def test_a_get_that_a_put_stands_for(self):
        for text, wanted in (
            ("ret 0\nput 2 0 : 0\nget 2 : 0 1", "ret 0\nput 2 0 : 0"),
            ("ret 0\nput 2 1 : 0\nget 2 : 1 0", "ret 0\nput 2 1 : 0"),
            ("ret 0\nput 5 1 : 0\nget 5 : 1 0 1", "ret 0\nput 5 1 : 0"),
            ("ret 0\nnote 3 1 : 0\nput 5 2 : 1\nget 5 : 2 2 1",
             "ret 0\nnote 3 1 : 0\nput 5 2 : 1"),
        ):
            self.check("none", text, wanted, ["put"])
        for text in ("ret 0\nput 2 1 : 0\nget 2 : 0 1", "ret 0\nput 5 1 : 0\nget 5 : 1 0 0"):
            web = Web(Book("none", LAYERS))
            self.assertNotIn("put", self.judge(web, node_of(web, text)))

    def test_writes_that_all_children_begin_with(self):
        for kernel, text, wanted in (
            ("choose", "ret 0\nret 1\nput 2 1 : 0\nput 2 1 : 1\nchoose 0 : 2 3",
             "ret 0\nret 1\nchoose 0 : 0 1\nput 2 1 : 2"),
            ("mixed", "ret 0\nret 1\nnote 3 1 : 0\nnote 3 1 : 1\ndraw 0 1 3 : 2 3",
             "ret 0\nret 1\ndraw 0 1 3 : 0 1\nnote 3 1 : 2"),
            ("none", "ret 0\nret 1\nput 2 1 : 0\nput 2 1 : 1\nlook 1 : 2 3",
             "ret 0\nret 1\nlook 1 : 0 1\nput 2 1 : 2"),
            ("none", "ret 0\nret 1\nput 5 1 : 0\nput 5 1 : 1\nget 2 : 2 3",
             "ret 0\nret 1\nget 2 : 0 1\nput 5 1 : 2"),
            ("none", "ret 0\nret 1\nput 5 1 : 0\nput 5 1 : 1\nask 4 0 : 2 3",
             "ret 0\nret 1\nask 4 0 : 0 1\nput 5 1 : 2"),
            ("none", "ret 0\nret 1\nput 2 1 : 0\nnote 3 1 : 2\nput 2 1 : 1\nnote 3 1 : 4\n"
                     "look 1 : 3 5", "ret 0\nret 1\nlook 1 : 0 1\nput 2 1 : 2\nnote 3 1 : 3"),
        ):
            self.check(kernel, text, wanted, ["first"])
        # The ask is above the layer, or the get is one of the layer itself.
        for text in ("ret 0\nret 1\nput 2 1 : 0\nput 2 1 : 1\nask 4 0 : 2 3",
                     "ret 0\nret 1\nret 2\nput 5 1 : 0\nput 5 1 : 1\nput 5 1 : 2\nask 4 0 : 0 1\n"
                     "put 2 1 : 6"):
            web = Web(Book("none", LAYERS))
            self.assertNotIn("first", self.judge(web, node_of(web, text)))

    def test_each_sort_in_each_kernel(self):
        for sort, text in (
            ("read", "ret 0\nret 1\nget 2 : 0 1\nput 2 1 : 2"),
            ("known put", "ret 0\nret 1\nget 2 : 0 1\nput 2 0 : 0\nget 2 : 3 1"),
            ("overtaken", "ret 0\nput 5 1 : 0\nnote 3 1 : 1\nput 5 0 : 2"),
            ("unit", "ret 0\nnote 3 0 : 0\nask 4 0 : 0 1"),
            ("same", "ret 0\nask 4 0 : 0 0\nlook 1 : 1 1"),
            ("put", "ret 0\nask 4 0 : 0 0\nput 5 2 : 1\nget 5 : 2 2 1"),
            ("first", "ret 0\nret 1\nput 5 1 : 0\nput 5 1 : 1\nask 4 0 : 2 3"),
        ):
            for kernel in KERNELS:
                web = Web(Book(kernel, LAYERS))
                self.assertEqual(self.judge(web, node_of(web, text)), {sort})

    def test_random_nodes(self):
        seen = set()
        for web, nodes in all_nodes(6, 3, seed=90):
            for node in nodes:
                for sort in self.judge(web, node):
                    seen.add((web.book.kernel, sort))
        self.assertEqual({kernel for kernel, _ in seen}, set(KERNELS))

    def test_nodes_over_few_others(self):
        generator = random.Random(91)
        seen = {sort: set() for sort in ("read", "known put", "overtaken", "unit", "same", "put",
                                         "first")}
        for kernel in KERNELS:
            for at in range(90):
                web, nodes = dense_nodes(kernel, BOOKS[at % len(BOOKS)], generator)
                for node in nodes[-2:]:
                    if web.size_of(node) <= 150:
                        for sort in self.judge(web, node):
                            seen[sort].add(kernel)
        for sort, kernels in seen.items():
            self.assertGreater(len(kernels), 4, sort)

    def test_rows_of_a_draft_stay(self):
        generator = random.Random(92)
        for kernel in KERNELS:
            web, nodes = dense_nodes(kernel, BOOKS[6], generator, 20)
            draft = Draft(web)
            for node in nodes:
                left, right = led(self, draft, slim, node)
                self.assertEqual(left, node)
                self.assertEqual(led(self, draft, slim, right), (right, right))

    def test_the_same_form(self):
        generator = random.Random(93)
        for kernel in KERNELS:
            for layers in BOOKS:
                web, nodes = dense_nodes(kernel, layers, generator)
                for node in nodes[-3:]:
                    try:
                        form = form_of(web, node)
                    except TooLarge:
                        continue
                    self.assertEqual(form_of(web, slimmed(web, node)[0]), form)

    def test_a_form_that_is_too_large(self):
        web = Web(Book("spread", [("cell", "c", 2)]))
        large = node_of(web, NINE)
        node = web.make(("put", 1, 0), [web.make(("put", 1, 1), [large])])
        found, paper = slimmed(web, node)
        self.assertEqual(judge(paper), (node, found))
        self.assertEqual((web.deed_of(found), web.children_of(found)), (("put", 1, 1), (large,)))

    def test_long_and_shared_webs(self):
        web = Web(Book("choose", [("cell", "c", 2), ("note", "n", SIGNS), ("cell", "d", 3)]))
        long = web.make(("ret", "0"), ())
        for at in range(1000):
            long = web.make(("put", 1, at % 2) if at % 3 else ("note", 2, 1), [long])
        shared = [long, web.make(("ret", "1"), ())]
        for at in range(60):
            put = web.make(("put", 3, at % 3), [shared[-1]])
            get = web.make(("get", 1), [shared[-2], put])
            shared.append(web.make(("choose", 0), [get, shared[-1]]))
        for node in (long, shared[-1]):
            found, paper = slimmed(web, node)
            self.assertEqual(judge(paper), (node, found))
            self.assertLess(web.size_of(found), web.size_of(node))
            self.assertEqual(slimmed(web, found)[0], found)
        self.assertEqual(len(reached(web, slimmed(web, long)[0])), 2)

    def test_many_writes_in_all_children(self):
        web = Web(Book("choose", [("cell", "c", 2), ("note", "n", SIGNS)]))
        ends = [web.make(("ret", str(at)), ()) for at in range(3)]
        one, other = ends[:2]
        for at in range(300):
            rest = web.make(("choose", 0), [one, ends[2]]), web.make(("choose", 0), [other, ends[2]])
            one, other = [web.make(("note", 2, 1), [node]) for node in rest]
        node = web.make(("choose", 0), [one, other])
        found, paper = slimmed(web, node)
        self.assertEqual(judge(paper), (node, found))
        self.assertEqual(web.deed_of(found), ("note", 2, 1))


if __name__ == "__main__":
    unittest.main()
