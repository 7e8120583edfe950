import unittest

from besideandthrough.acting import form_from_ends
from besideandthrough.books import Book
from besideandthrough.errors import TooLarge
from besideandthrough.forms import form_of
from besideandthrough.leading import paper_between
from besideandthrough.papers import Paper, judge
from besideandthrough.parting import parting_world
from besideandthrough.states import starts
from besideandthrough.valuing import worth
from besideandthrough.verdicts import stands, verdict
from besideandthrough.webs import Web, copied
from besideandthrough.webtexts import write_web
from besideandthrough.worlds import World
from tests.helpers import KERNELS, SIGNS, node_of
from tests.nodes import Nodes, all_nodes
from tests.test_leading import NINE
from tests.test_papers import BOOK, WithNodes


def form_or_none(web, node):
    try:
        form_of(web, node)
        return form_from_ends(web, node)
    except TooLarge:
        return None


class Verdicts(unittest.TestCase):
    def judge(self, web, one, other):
        """The first word of a verdict, which stands; None if TooLarge is raised."""
        before = list(web)
        forms = [form_or_none(web, node) for node in (one, other)]
        if None in forms:
            with self.assertRaises(TooLarge):
                verdict(web, one, other)
            self.assertEqual(list(web)[:len(before)], before)
            return None
        found = verdict(web, one, other)
        self.assertEqual(list(web)[:len(before)], before)
        self.assertIsInstance(found, tuple)
        self.assertIs(stands(web, one, other, found), True)
        if forms[0] == forms[1]:
            word, paper = found
            self.assertEqual(word, "same")
            left, right = judge(paper)
            self.assertEqual(write_web(paper.web, left), write_web(web, one))
            self.assertEqual(write_web(paper.web, right), write_web(web, other))
            return word
        word, world, start, scale = found
        self.assertEqual(word, "parted")
        self.assertIn(start, starts(web.book))
        self.assertIn(scale, range(world.scales))
        self.assertNotEqual(worth(world, web, one, start)[scale],
                            worth(world, web, other, start)[scale])
        # The verdict stands the other way round, and not about equal nodes.
        self.assertIs(stands(web, other, one, found), True)
        self.assertIs(stands(web, one, one, found), False)
        self.assertIs(stands(web, other, other, found), False)
        return word

    def test_random_nodes(self):
        told = {"same": set(), "parted": set(), None: set()}
        for web, nodes in all_nodes(5, 2, seed=120):
            for one in nodes:
                for other in nodes:
                    told[self.judge(web, one, other)].add(web.book.kernel)
        self.assertEqual(told["same"], set(KERNELS))
        self.assertEqual(told["parted"], set(KERNELS))

    def test_small_programs(self):
        for kernel in KERNELS:
            made = Nodes(Book(kernel, [("cell", "c", 2), ("note", "n", SIGNS)]), 11)
            nodes = sorted(set(made.nodes(20, 2)))
            words = {self.judge(made.web, a, b) for a in nodes for b in nodes if a != b}
            self.assertLessEqual({"same", "parted"}, words)

    def test_too_large(self):
        web = Web(Book("spread", [("cell", "c", 2)]))
        large = node_of(web, NINE)
        hidden = web.make(("put", 1, 0), [web.make(("get", 1), [0, large])])
        self.assertEqual(len(form_of(web, hidden)[0]), 1)
        for node in (large, hidden):
            for one, other in ((0, node), (node, 0), (node, node)):
                self.assertIsNone(self.judge(web, one, other))


class Standing(WithNodes):
    def stands(self, one, other, *told):
        before = list(self.web)
        found = stands(self.web, one, other, told)
        self.assertEqual(list(self.web), before)
        return found

    def test_papers(self):
        paper = Paper(self.web, self.long)
        self.assertIs(self.stands(self.idle, self.zero, "same", paper), True)
        # The other way round, and about other nodes.
        for one, other in ((self.zero, self.idle), (self.unit, self.zero), (self.idle, self.unit),
                           (self.idle, self.one), (self.one, self.zero), (self.zero, self.zero)):
            self.assertIs(self.stands(one, other, "same", paper), False)

    def test_papers_that_the_judge_does_not_take(self):
        for rows in ([("like", self.idle, self.zero, ())], [("unit", self.idle, self.zero, ())],
                     [*self.long[:2], ("join", self.idle, self.zero, (2, 1))],
                     [("unit", self.zero, self.unit, ()), *self.long],
                     [("odd", self.idle, self.zero, ())], [("like", self.zero, 99, ())],
                     [("like", -1, -1, ())]):
            with self.subTest(rows):
                self.assertIs(self.stands(self.idle, self.zero, "same", Paper(self.web, rows)), False)
        self.assertIs(self.stands(self.zero, self.one, "same",
                                  Paper(self.web, [("like", self.zero, self.one, ())])), False)

    def test_a_row_that_says_too_much(self):
        rows = [("idle", self.idle, self.unit, ()), ("unit", self.unit, self.zero, ()),
                ("join", self.idle, self.zero, (1, 2)), ("lot", self.zero, self.one, ()),
                ("join", self.idle, self.one, (3, 4))]
        self.assertIs(self.stands(self.idle, self.one, "same", Paper(self.web, rows)), False)
        # The row before the wrong one is not enough, since the judge takes whole papers.
        rows = [rows[0], rows[3], *[("unit", self.unit, self.zero, ()),
                                    ("join", self.idle, self.zero, (1, 3))]]
        self.assertIs(self.stands(self.idle, self.zero, "same", Paper(self.web, rows)), False)

    def test_papers_over_another_web(self):
        other = Web(Book("choose", BOOK.layers))
        node_of(other, "ret 5\nget 1 : 0 0")
        copied(other, self.web, self.idle)
        numbers = {old: copied(other, self.web, old) for old in (self.idle, self.unit, self.zero)}
        rows = [(word, numbers[a], numbers[b], refs) for word, a, b, refs in self.long]
        paper = Paper(other, rows)
        self.assertIs(self.stands(self.idle, self.zero, "same", paper), True)
        self.assertIs(self.stands(self.idle, self.unit, "same", paper), False)
        # The same numbers mean other nodes in another web.
        other = Web(BOOK)
        nodes = [node_of(other, "ret 3"), node_of(other, "ret 3\nnote 2 0 : 0")]
        for at in range(9):
            node_of(other, f"ret {at}")
        paper = Paper(other, [("unit", nodes[1], nodes[0], ())])
        self.assertIs(self.stands(self.unit, self.zero, "same", paper), False)
        self.assertIs(self.stands(nodes[1], nodes[0], "same", paper), False)

    def test_worlds(self):
        rows = ((("done", "0", (0, 0)), (4, 1)), (("done", "1", (0, 0)), (4, 0)))
        world = World(Book("choose", BOOK.layers), 2, rows)
        for start, scale, found in (((0, 0), 0, False), ((0, 0), 1, True), ((1, 0), 0, False),
                                    ((1, 0), 1, False)):
            self.assertIs(self.stands(self.zero, self.one, "parted", world, start, scale), found)
            self.assertIs(self.stands(self.one, self.zero, "parted", world, start, scale), found)
            self.assertIs(self.stands(self.idle, self.zero, "parted", world, start, scale), False)

    def test_what_is_told_of_nodes_in_each_kernel(self):
        for web, nodes in all_nodes(4, 2, seed=121):
            for one in nodes:
                for other in nodes:
                    if None in (form_or_none(web, one), form_or_none(web, other)):
                        continue
                    self.compare(web, one, other)

    def compare(self, web, one, other):
        paper = paper_between(web, one, other)
        world = parting_world(web, one, other)
        differs = [worth(world, web, one, start) != worth(world, web, other, start)
                   for start in starts(web.book)]
        told = [stands(web, one, other, ("parted", world, start, scale))
                for start in starts(web.book) for scale in range(world.scales)]
        self.assertEqual(any(told), any(differs))
        self.assertEqual(any(told), paper is None)
        if paper:
            self.assertIs(stands(web, one, other, ("same", paper)), True)
            self.assertIs(stands(web, other, one, ("same", paper)), one == other)


if __name__ == "__main__":
    unittest.main()
