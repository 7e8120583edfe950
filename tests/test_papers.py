import random
import unittest

from besideandthrough.books import Book
from besideandthrough.errors import PaperError, TooLarge
from besideandthrough.forms import form_of
from besideandthrough.papers import Paper, cut, followed, judge, turned
from besideandthrough.steps import is_step
from besideandthrough.webs import Web
from tests.helpers import SIGNS, node_of, remade
from tests.nodes import all_nodes
from tests.test_steps import Stepper

BOOK = Book("choose", [("cell", "c", 2), ("note", "n", SIGNS)])


def fault(call, *given, **told):
    """The row of the PaperError that a call raises, or None."""
    try:
        call(*given, **told)
    except PaperError as error:
        return error.row
    return None


class WithNodes(unittest.TestCase):
    def setUp(self):
        self.web = Web(BOOK)
        self.zero = node_of(self.web, "ret 0")
        self.one = node_of(self.web, "ret 1")
        # Steps from here lead to zero, one after the other.
        self.unit = node_of(self.web, "ret 0\nnote 2 0 : 0")
        self.idle = node_of(self.web, "ret 0\nnote 2 0 : 0\nget 1 : 1 1")
        self.long = [("idle", self.idle, self.unit, ()), ("unit", self.unit, self.zero, ()),
                     ("join", self.idle, self.zero, (1, 2))]

    def fault(self, *rows):
        return fault(judge, Paper(self.web, rows))


class Papers(WithNodes):
    def test_attributes(self):
        rows = list(self.long)
        paper = Paper(self.web, rows)
        rows.append(("like", self.one, self.one, ()))
        self.assertIs(paper.web, self.web)
        self.assertEqual(paper.rows, tuple(self.long))
        self.assertEqual(list(paper), self.long)
        self.assertEqual((paper.left, paper.right), (self.idle, self.zero))
        self.assertEqual(Paper(self.web, tuple(self.long)).rows, tuple(self.long))

    def test_without_rows(self):
        for rows in ((), []):
            self.assertEqual(fault(Paper, self.web, rows), 0)

    def test_nothing_else_is_checked(self):
        paper = Paper(self.web, [("x", -5, 99, (7,))])
        self.assertEqual((paper.left, paper.right), (-5, 99))
        self.assertEqual(fault(judge, paper), 1)

    def test_judging(self):
        self.assertEqual(judge(Paper(self.web, self.long)), (self.idle, self.zero))
        self.assertEqual(judge(Paper(self.web, self.long[:1])), (self.idle, self.unit))
        self.assertIsInstance(judge(Paper(self.web, self.long)), tuple)

    def test_the_first_row_that_does_not_hold(self):
        bad = ("like", self.zero, self.one, ())
        for at in range(4):
            rows = self.long[:at] + [bad] + self.long[at:]
            self.assertEqual(self.fault(*rows), at + 1)
        self.assertEqual(self.fault(bad, bad), 1)
        # A row holds or does not hold whatever the rows do that it refers to.
        self.assertEqual(self.fault(bad, ("turn", self.one, self.zero, (1,))), 1)
        self.assertEqual(self.fault(self.long[0], ("turn", self.idle, self.unit, (1,))), 2)

    def test_the_web_at_the_time_of_the_call(self):
        node = len(list(self.web))
        paper = Paper(self.web, [("unit", node, self.one, ())])
        self.assertEqual(fault(judge, paper), 1)
        self.web.make(("note", 2, 0), [self.one])
        self.assertEqual(judge(paper), (node, self.one))

    def test_judging_changes_nothing(self):
        before = list(self.web)
        self.fault(*self.long)
        self.fault(*self.long[:2], ("swap", self.idle, self.zero, ()))
        self.assertEqual(list(self.web), before)


class Rows(WithNodes):
    def test_nodes_of_the_web(self):
        many = len(list(self.web))
        for word in ("like", "idle", "lot", "x"):
            for a, b in ((-1, -1), (many, many), (self.zero, many), (many, self.zero),
                         (-1, self.zero), (self.zero, -1), (10 ** 40, self.zero)):
                self.assertEqual(self.fault((word, a, b, ())), 1)
        # The last node of the web is not the one with the number -1.
        self.assertEqual(self.idle, many - 1)
        self.assertIsNone(self.fault(("idle", self.idle, self.unit, ())))
        self.assertEqual(self.fault(("idle", -1, self.unit, ())), 1)
        self.assertIsNone(self.fault(("corner", self.idle, self.idle, ())))
        self.assertEqual(self.fault(("corner", self.idle, -1, ())), 1)

    def test_like(self):
        for node in (self.zero, self.idle):
            self.assertIsNone(self.fault(("like", node, node, ())))
        self.assertEqual(self.fault(("like", self.zero, self.one, ())), 1)
        first = ("like", self.zero, self.zero, ())
        self.assertEqual(self.fault(first, ("like", self.zero, self.zero, (1,))), 2)

    def test_turn(self):
        first = self.long[0]
        self.assertIsNone(self.fault(first, ("turn", self.unit, self.idle, (1,))))
        for a, b, refs in ((self.idle, self.unit, (1,)), (self.unit, self.unit, (1,)),
                           (self.unit, self.zero, (1,)), (self.unit, self.idle, ()),
                           (self.unit, self.idle, (1, 1))):
            self.assertEqual(self.fault(first, ("turn", a, b, refs)), 2)

    def test_join(self):
        idle, unit, zero = self.idle, self.unit, self.zero
        for a, b, refs in ((idle, zero, (2, 1)), (idle, zero, (1,)), (idle, zero, ()),
                           (idle, zero, (1, 2, 2)), (unit, zero, (1, 2)), (idle, unit, (1, 2)),
                           (idle, zero, (1, 1)), (idle, unit, (1,))):
            self.assertEqual(self.fault(*self.long[:2], ("join", a, b, refs)), 3)
        likes = ("like", idle, idle, ())
        self.assertIsNone(self.fault(likes, ("join", idle, idle, (1, 1))))

    def test_within(self):
        web = self.web
        get = web.make(("get", 1), [self.unit, self.one])
        short = web.make(("get", 1), [self.zero, self.one])
        both = web.make(("get", 1), [self.unit, self.unit])
        rows = [("unit", self.unit, self.zero, ()), ("like", self.one, self.one, ())]
        self.assertIsNone(self.fault(*rows, ("within", get, short, (1, 2))))
        for a, b, refs in ((get, short, (2, 1)), (get, short, (1,)), (get, short, ()),
                           (get, short, (1, 2, 2)), (short, get, (1, 2)), (get, get, (1, 2)),
                           (both, short, (1, 2)), (get, short, (1, 1))):
            self.assertEqual(self.fault(*rows, ("within", a, b, refs)), 3)
        choose = web.make(("choose", 0), [self.zero, self.one])
        self.assertEqual(self.fault(*rows, ("within", get, choose, (1, 2))), 3)

    def test_within_without_children(self):
        self.assertIsNone(self.fault(("within", self.zero, self.zero, ())))
        self.assertEqual(self.fault(("within", self.zero, self.one, ())), 1)
        first = ("like", self.zero, self.zero, ())
        self.assertEqual(self.fault(first, ("within", self.zero, self.zero, (1,))), 2)

    def test_refs_out_of_range(self):
        idle, unit, zero = self.idle, self.unit, self.zero
        for ref in (0, -1, -2, 2, 3, 10 ** 20):
            self.assertEqual(self.fault(self.long[0], ("turn", unit, idle, (ref,))), 2)
        self.assertEqual(self.fault(("turn", zero, zero, (0,))), 1)
        # A row cannot refer to itself or to a later row.
        self.assertEqual(self.fault(("turn", zero, zero, (1,))), 1)
        for refs in ((1, 3), (3, 2), (0, 2), (1, -1), (-2, 2), (1, 4)):
            rows = [*self.long[:2], ("join", idle, zero, refs), self.long[1]]
            self.assertEqual(self.fault(*rows), 3)

    def test_axioms(self):
        self.assertIsNone(self.fault(*self.long[:2]))
        self.assertEqual(self.fault(("unit", self.idle, self.unit, ())), 1)
        self.assertEqual(self.fault(("unit", self.zero, self.unit, ())), 1)
        first = ("like", self.zero, self.zero, ())
        self.assertEqual(self.fault(first, ("unit", self.unit, self.zero, (1,))), 2)
        self.assertEqual(self.fault(("lot", self.zero, self.zero, ())), None)

    def test_other_words(self):
        for word in ("", "Like", "axiom", "ret", "get", "like ", "swap "):
            self.assertEqual(self.fault((word, self.zero, self.zero, ())), 1)
            self.assertEqual(self.fault((word, self.unit, self.zero, ())), 1)

    def test_rows_of_axioms_are_steps(self):
        words = ("idle", "corner", "regot", "putput", "putget", "unit", "notes", "lot", "share",
                 "spread", "swap")
        for web, nodes in all_nodes(4, 4, seed=12):
            for a in nodes:
                for b in nodes + [b for _, b in Stepper(web).steps(a)]:
                    for word in words:
                        told = None if is_step(web, word, a, b) else 1
                        self.assertEqual(fault(judge, Paper(web, [(word, a, b, ())])), told)


class Turning(WithNodes):
    def test_the_turn(self):
        paper = Paper(self.web, self.long)
        told = turned(paper)
        self.assertEqual(list(told), [*self.long, ("turn", self.zero, self.idle, (3,))])
        self.assertIs(told.web, self.web)
        self.assertEqual(judge(told), (self.zero, self.idle))
        self.assertEqual(list(turned(told))[-1], ("turn", self.idle, self.zero, (4,)))
        self.assertEqual(list(paper), self.long)

    def test_a_like_row(self):
        paper = Paper(self.web, [("like", self.one, self.one, ())])
        self.assertEqual(list(turned(paper))[1:], [("turn", self.one, self.one, (1,))])
        self.assertEqual(judge(turned(paper)), (self.one, self.one))


class Following(WithNodes):
    def test_two(self):
        one, other = Paper(self.web, self.long[:1]), Paper(self.web, self.long[1:2])
        paper = followed(one, other)
        self.assertEqual(list(paper), self.long)
        self.assertEqual(judge(paper), (self.idle, self.zero))
        self.assertEqual(fault(followed, other, one), 0)
        self.assertEqual(list(one), self.long[:1])

    def test_several(self):
        paper = Paper(self.web, self.long)
        back = turned(paper)
        told = followed(paper, back, paper)
        self.assertEqual(judge(told), (self.idle, self.zero))
        self.assertEqual(list(told), [
            *self.long,
            ("idle", self.idle, self.unit, ()), ("unit", self.unit, self.zero, ()),
            ("join", self.idle, self.zero, (4, 5)), ("turn", self.zero, self.idle, (6,)),
            ("join", self.idle, self.idle, (3, 7)),
            ("idle", self.idle, self.unit, ()), ("unit", self.unit, self.zero, ()),
            ("join", self.idle, self.zero, (9, 10)), ("join", self.idle, self.zero, (8, 11))])
        self.assertEqual(fault(followed, paper, back, back), 0)
        self.assertEqual(fault(followed, paper, paper, back), 0)

    def test_alone(self):
        paper = Paper(self.web, self.long)
        self.assertEqual(list(followed(paper)), self.long)

    def test_like_rows_are_joined_as_well(self):
        like = Paper(self.web, [("like", self.one, self.one, ())])
        self.assertEqual(list(followed(like, like)), [
            ("like", self.one, self.one, ()), ("like", self.one, self.one, ()),
            ("join", self.one, self.one, (1, 2))])

    def test_the_same_web(self):
        other = Web(BOOK)
        remade(other, self.web)
        self.assertEqual(list(other), list(self.web))
        first, second = Paper(self.web, self.long[:1]), Paper(other, self.long[1:2])
        self.assertEqual(fault(followed, first, second), 0)
        like = Paper(self.web, [("like", self.zero, self.zero, ())])
        self.assertEqual(fault(followed, first, Paper(self.web, self.long[1:2]), like), None)
        self.assertEqual(fault(followed, first, second, like), 0)

    def test_papers_that_do_not_hold(self):
        bad = Paper(self.web, [("swap", self.zero, self.one, (5,))])
        more = Paper(self.web, [("like", 77, self.one, ()), ("x", self.one, 99, (1,))])
        self.assertEqual(list(followed(bad, more)), [
            ("swap", self.zero, self.one, (5,)), ("like", 77, self.one, ()),
            ("x", self.one, 99, (2,)), ("join", self.zero, 99, (1, 3))])


class Cutting(WithNodes):
    def test_the_rows_that_a_row_needs(self):
        one = ("like", self.one, self.one, ())
        unit, zero, idle = self.unit, self.zero, self.idle
        rows = [one, ("idle", idle, unit, ()), one, ("unit", unit, zero, ()),
                ("turn", unit, idle, (2,)), ("join", idle, zero, (2, 4)), one]
        paper = Paper(self.web, rows)
        self.assertEqual(list(cut(paper, row=6)), self.long)
        self.assertEqual(list(cut(paper, row=5)), [("idle", idle, unit, ()),
                                                   ("turn", unit, idle, (1,))])
        self.assertEqual(list(cut(paper, row=1)), [one])
        self.assertEqual(list(cut(paper, row=7)), [one])
        self.assertEqual(list(cut(paper, row=0)), [one])
        self.assertEqual(list(cut(paper)), [one])
        self.assertIs(cut(paper).web, self.web)
        self.assertEqual(list(paper), rows)

    def test_a_row_that_is_needed_twice(self):
        one = self.one
        rows = [("like", one, one, ()), ("turn", one, one, (1,)), ("join", one, one, (2, 1)),
                ("turn", one, one, (2,)), ("join", one, one, (4, 4))]
        paper = Paper(self.web, rows)
        self.assertEqual(list(cut(paper)), [
            ("like", one, one, ()), ("turn", one, one, (1,)), ("turn", one, one, (2,)),
            ("join", one, one, (3, 3))])
        self.assertEqual(list(cut(paper, row=3)), rows[:3])

    def test_no_such_row(self):
        paper = Paper(self.web, self.long)
        for row in (4, 5, 99, -1, -3):
            self.assertEqual(fault(cut, paper, row=row), row)

    def test_a_paper_that_does_not_hold(self):
        paper = Paper(self.web, [*self.long, ("like", self.zero, self.one, ())])
        # The whole paper is judged first, whatever the row.
        for row in (0, 1, 3, 4, 5, -1):
            self.assertEqual(fault(cut, paper, row=row), 4)


class ManyPapers(unittest.TestCase):
    def test_the_sides_have_the_same_form(self):
        rnd = random.Random(1)
        cuts = 0
        for web, nodes in all_nodes(6, 5, seed=13):
            rows = [("like", node, node, ()) for node in nodes]
            for _ in range(60):
                self.add_row(rnd, web, rows)
            paper = Paper(web, rows)
            self.assertEqual(judge(paper), (rows[-1][1], rows[-1][2]))
            for number in range(1, len(rows) + 1, 5):
                part = cut(paper, row=number)
                self.assertEqual(judge(part), rows[number - 1][1:3])
                self.assertEqual(judge(turned(part)), (part.right, part.left))
                self.assertEqual(judge(followed(part, turned(part), part)), judge(part))
                try:
                    self.assertEqual(form_of(web, part.left), form_of(web, part.right))
                except TooLarge:
                    continue
                cuts += part.left != part.right
        self.assertGreater(cuts, 100)

    def add_row(self, rnd, web, rows):
        number = rnd.randint(1, len(rows))
        _, a, b, _ = rows[number - 1]
        kind = rnd.choice(("step", "step", "turn", "join", "within"))
        if kind == "step":
            steps = list(Stepper(web).steps(b))
            if steps:
                word, node = rnd.choice(steps)
                rows.append((word, b, node, ()))
        elif kind == "turn":
            rows.append(("turn", b, a, (number,)))
        elif kind == "join":
            for other, row in enumerate(rows):
                if row[1] == b and row[2] != b:
                    rows.append(("join", a, row[2], (number, other + 1)))
                    return
        else:
            deed = web.deed_of(a)
            children = web.children_of(a)
            refs = [rnd.choice([at + 1 for at, row in enumerate(rows) if row[1] == child] or [0])
                    for child in children]
            if 0 not in refs:
                right = web.make(deed, [rows[ref - 1][2] for ref in refs])
                rows.append(("within", a, right, tuple(refs)))


if __name__ == "__main__":
    unittest.main()
