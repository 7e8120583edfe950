import random
import unittest

from besideandthrough.drafts import Draft
from besideandthrough.papers import Paper, judge
from tests.helpers import KERNELS, node_of
from tests.nodes import all_nodes
from tests.test_papers import WithNodes
from tests.test_steps import Stepper


class Drafts(WithNodes):
    def setUp(self):
        super().setUp()
        self.draft = Draft(self.web)

    def test_a_new_draft(self):
        self.assertIs(self.draft.web, self.web)
        self.assertEqual(self.draft.rows, [])
        self.assertEqual(list(self.draft), [])

    def test_like(self):
        self.assertEqual(self.draft.like(self.one), 1)
        self.assertEqual(self.draft.like(self.zero), 2)
        self.assertEqual(self.draft.like(self.one), 1)
        self.assertEqual(self.draft.rows, [("like", self.one, self.one, ()),
                                           ("like", self.zero, self.zero, ())])
        self.assertEqual(list(self.draft), self.draft.rows)

    def test_by(self):
        self.assertEqual(self.draft.by("idle", self.idle, self.unit), 1)
        self.assertEqual(self.draft.by("unit", self.unit, self.zero), 2)
        self.assertEqual(self.draft.by("idle", self.idle, self.unit), 1)
        self.assertEqual(self.draft.by("corner", self.idle, self.unit), 3)
        self.assertEqual(self.draft.by("idle", self.unit, self.unit), 4)
        self.assertEqual(self.draft.rows, [
            ("idle", self.idle, self.unit, ()), ("unit", self.unit, self.zero, ()),
            ("corner", self.idle, self.unit, ()), ("like", self.unit, self.unit, ())])

    def test_sides(self):
        row = self.draft.by("idle", self.idle, self.unit)
        self.assertEqual((self.draft.left(row), self.draft.right(row)), (self.idle, self.unit))
        row = self.draft.turn(row)
        self.assertEqual((self.draft.left(row), self.draft.right(row)), (self.unit, self.idle))

    def test_turn(self):
        row = self.draft.by("idle", self.idle, self.unit)
        self.assertEqual(self.draft.turn(row), 2)
        self.assertEqual(self.draft.turn(row), 2)
        self.assertEqual(self.draft.rows[1], ("turn", self.unit, self.idle, (1,)))
        # A turn is turned like any row, and only a like row stays.
        self.assertEqual(self.draft.turn(2), 3)
        self.assertEqual(self.draft.rows[2], ("turn", self.idle, self.unit, (2,)))
        like = self.draft.like(self.one)
        self.assertEqual(self.draft.turn(like), like)
        self.assertEqual(len(self.draft.rows), 4)

    def test_a_row_between_equal_nodes_is_not_a_like_row(self):
        first = self.draft.by("idle", self.idle, self.unit)
        there = self.draft.join(first, self.draft.turn(first))
        self.assertEqual(self.draft.rows[there - 1], ("join", self.idle, self.idle, (1, 2)))
        self.assertEqual(self.draft.turn(there), 4)
        self.assertEqual(self.draft.rows[3], ("turn", self.idle, self.idle, (3,)))
        self.assertEqual(self.draft.join(there, there), 5)
        self.assertEqual(self.draft.rows[4], ("join", self.idle, self.idle, (3, 3)))

    def test_join(self):
        first = self.draft.by("idle", self.idle, self.unit)
        second = self.draft.by("unit", self.unit, self.zero)
        self.assertEqual(self.draft.join(first, second), 3)
        self.assertEqual(self.draft.join(first, second), 3)
        self.assertEqual(self.draft.rows[2], ("join", self.idle, self.zero, (1, 2)))

    def test_joins_of_like_rows(self):
        row = self.draft.by("idle", self.idle, self.unit)
        before = self.draft.like(self.idle)
        behind = self.draft.like(self.unit)
        self.assertEqual(self.draft.join(before, row), row)
        self.assertEqual(self.draft.join(row, behind), row)
        self.assertEqual(self.draft.join(before, before), before)
        # The second row is given, whatever the sides of the like row.
        other = self.draft.like(self.one)
        self.assertEqual(self.draft.join(other, before), before)
        self.assertEqual(self.draft.join(before, other), other)
        self.assertEqual(self.draft.join(row, other), row)
        self.assertEqual(len(self.draft.rows), 4)

    def test_within(self):
        under_unit = node_of(self.web, "ret 0\nnote 2 0 : 0\nput 1 1 : 1")
        under_zero = node_of(self.web, "ret 0\nput 1 1 : 0")
        row = self.draft.by("unit", self.unit, self.zero)
        refs = [row]
        self.assertEqual(self.draft.within(under_unit, under_zero, refs), 2)
        refs.append(7)
        self.assertEqual(self.draft.rows[1], ("within", under_unit, under_zero, (row,)))
        self.assertEqual(self.draft.within(under_unit, under_zero, (row,)), 2)
        self.assertEqual(self.draft.within(under_zero, under_zero, [row]), 3)
        self.assertEqual(self.draft.rows[2], ("like", under_zero, under_zero, ()))

    def test_rows_are_not_judged(self):
        row = self.draft.by("odd", self.one, self.zero)
        row = self.draft.join(row, self.draft.within(self.idle, self.one, (row, row, row)))
        self.assertEqual(self.draft.rows[row - 1], ("join", self.one, self.one, (1, 2)))

    def test_the_paper_of_a_row(self):
        self.draft.like(self.one)
        first = self.draft.by("idle", self.idle, self.unit)
        self.draft.by("odd", self.idle, self.unit)
        second = self.draft.by("unit", self.unit, self.zero)
        whole = self.draft.join(first, second)
        self.draft.turn(second)
        back = self.draft.turn(whole)
        paper = self.draft.paper(back)
        self.assertIsInstance(paper, Paper)
        self.assertIs(paper.web, self.web)
        self.assertEqual(paper.rows, (
            ("idle", self.idle, self.unit, ()), ("unit", self.unit, self.zero, ()),
            ("join", self.idle, self.zero, (1, 2)), ("turn", self.zero, self.idle, (3,))))
        self.assertEqual(judge(paper), (self.zero, self.idle))
        self.assertEqual(self.draft.paper(second).rows, (("unit", self.unit, self.zero, ()),))

    def test_the_paper_of_a_row_whose_rows_need_each_other(self):
        draft = self.draft
        first = draft.by("unit", self.unit, self.zero)
        back = draft.turn(first)
        odd = draft.by("unit", self.zero, self.unit)
        there = draft.join(first, back)
        again = draft.join(there, draft.join(there, first))
        paper = draft.paper(again)
        self.assertEqual(paper.rows, (
            ("unit", self.unit, self.zero, ()), ("turn", self.zero, self.unit, (1,)),
            ("join", self.unit, self.unit, (1, 2)), ("join", self.unit, self.zero, (3, 1)),
            ("join", self.unit, self.zero, (3, 4))))
        self.assertEqual(judge(paper), (self.unit, self.zero))
        self.assertEqual(draft.rows[odd - 1][0], "unit")

    def test_random_rows_in_each_kernel(self):
        """A draft that is told what a list of rows tells: each row stands once."""
        seen = set()
        generator = random.Random(5)
        for web, nodes in all_nodes(6, 3, seed=9):
            seen.add(web.book.kernel)
            draft, told = Draft(web), []
            for _ in range(60):
                row, number = self.random_row(draft, generator, nodes)
                if row is not None:
                    if row not in told:
                        told.append(row)
                    self.assertEqual(told.index(row) + 1, number)
                self.assertEqual(draft.rows, told)
            for number in range(1, len(told) + 1):
                self.assertEqual(draft.paper(number).rows, self.needed(told, number))
        self.assertEqual(seen, set(KERNELS))

    def random_row(self, draft, generator, nodes):
        """A row of which the draft is told, or None if it is one that it has, and its number."""
        a, b = generator.choice(nodes), generator.choice(nodes)
        like = ("like", a, a, ())
        sort = generator.choice(["like", "by", "turn", "join", "within"])
        if sort == "like":
            return like, draft.like(a)
        if sort == "by":
            return (("lot", a, b, ()) if a != b else like), draft.by("lot", a, b)
        if not draft.rows:
            return None, 0
        one, other = (generator.randint(1, len(draft.rows)) for _ in range(2))
        first, second = draft.rows[one - 1], draft.rows[other - 1]
        if sort == "turn":
            row = ("turn", first[2], first[1], (one,))
            return (first if first[0] == "like" else row), draft.turn(one)
        if sort == "within":
            row = ("within", a, b, (one, other))
            return (row if a != b else like), draft.within(a, b, [one, other])
        row = ("join", first[1], second[2], (one, other))
        if first[0] == "like":
            row = second
        elif second[0] == "like":
            row = first
        return row, draft.join(one, other)

    def needed(self, rows, number):
        found = set()

        def need(at):
            for ref in rows[at - 1][3]:
                found.add(ref)
                need(ref)

        need(number)
        order = sorted(found) + [number]
        return tuple((word, a, b, tuple(order.index(ref) + 1 for ref in refs))
                     for word, a, b, refs in (rows[at - 1] for at in order))

    def test_steps_of_each_kernel(self):
        for web, nodes in all_nodes(6, 3, seed=4):
            draft = Draft(web)
            stepper = Stepper(web)
            for node in nodes:
                for word, other in list(stepper.steps(node)):
                    row = draft.by(word, node, other)
                    self.assertEqual(judge(draft.paper(draft.turn(row))), (other, node))


if __name__ == "__main__":
    unittest.main()
