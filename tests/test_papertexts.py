import unittest

from besideandthrough.errors import PaperError, TextError, TooLarge, WebError
from besideandthrough.drafts import Draft
from besideandthrough.leading import lead
from besideandthrough.papers import Paper, judge
from besideandthrough.papertexts import nodes_of, read_paper, write_paper
from besideandthrough.webs import reached
from besideandthrough.webtexts import write_web
from tests.helpers import (
    KERNELS, fault, joined_tokens, line_changes, text_changes, token_changes)
from tests.nodes import all_nodes
from tests.oracles import is_number, node_fault, spacing_fault, split_line
from tests.test_papers import BOOK, WithNodes

ROW_WORDS = ("like", "turn", "join", "within", "idle", "corner", "regot", "putput", "putget",
             "unit", "notes", "lot", "share", "spread", "swap")
TEXT = """ret 0
note 2 0 : 0
get 1 : 1 1
put 1 1 : 1
put 1 1 : 0
ret 1
idle 2 1
unit 1 0
join 2 0 : 1 2
within 3 4 : 2
turn 0 2 : 3
like 5 5"""


def row_fault(tokens, many):
    """The first token that cannot stand in the line of a row, or 0."""
    for at in range(1, len(tokens) + 1):
        token = tokens[at] if at < len(tokens) else ""
        if at in (1, 2):
            good = is_number(token, 40) and int(token) < many
        elif token == "":
            good = at == 3 or at > 4
        elif at == 3:
            good = token == ":"
        else:
            good = is_number(token, 40)
        if not good:
            return at + 1
    return 0


def paper_fault(text):
    """The line and token at which the text of a paper breaks its form, or None."""
    many, rows = 0, 0
    for index, line in enumerate(text.split("\n")):
        tokens = split_line(line)
        at = spacing_fault(line)
        if not at and tokens and tokens[0] in ROW_WORDS:
            rows += 1
            at = row_fault(tokens, many)
        elif not at:
            at = 1 if rows else node_fault(tokens, index)
            many += 1
        if at:
            return index + 1, at
    return None


def listed(paper):
    """The nodes that point [91] lists."""
    found = []
    for _, a, b, _ in paper.rows:
        for node in reached(paper.web, a) + reached(paper.web, b):
            if node not in found:
                found.append(node)
    return found


class Writing(WithNodes):
    def test_the_examples_of_point_91(self):
        text = write_paper(Paper(self.web, self.long))
        self.assertEqual(text, "ret 0\nnote 2 0 : 0\nget 1 : 1 1\n"
                               "idle 2 1\nunit 1 0\njoin 2 0 : 1 2")

    def test_nodes_that_are_listed(self):
        paper = Paper(self.web, [("unit", self.zero, self.unit, ()),
                                 ("idle", self.idle, self.one, (5,)),
                                 ("like", self.zero, self.zero, ())])
        nodes = [self.zero, self.unit, self.idle, self.one]
        self.assertEqual(list(nodes_of(paper)), nodes)
        self.assertEqual(write_paper(paper), "ret 0\nnote 2 0 : 0\nget 1 : 1 1\nret 1\n"
                                             "unit 0 1\nidle 2 3 : 5\nlike 0 0")

    def test_a_side_whose_part_is_partly_listed(self):
        both = self.web.make(("choose", 0), [self.one, self.idle])
        paper = Paper(self.web, [("like", self.unit, self.unit, ()), ("lot", both, both, ())])
        self.assertEqual(list(nodes_of(paper)),
                         [self.zero, self.unit, self.one, self.idle, both])

    def test_rows_that_cannot_be_written(self):
        good = self.long[0]
        for bad in (("odd", self.one, self.one, ()), ("", self.one, self.one, ()),
                    ("ret", self.one, self.one, ()), ("like", -1, self.one, ()),
                    ("like", self.one, len(list(self.web)), ()), ("like", 99, 99, ())):
            for rows, number in (([bad], 1), ([good, bad], 2), ([good, bad, bad], 2)):
                with self.subTest(rows), self.assertRaises(PaperError) as caught:
                    write_paper(Paper(self.web, rows))
                self.assertEqual(caught.exception.row, number)

    def test_writing_does_not_judge(self):
        rows = [("swap", self.one, self.one, (7, 0)), ("join", self.one, self.one, ())]
        self.assertEqual(write_paper(Paper(self.web, rows)), "ret 1\nswap 0 0 : 7 0\njoin 0 0")

    def test_papers_of_each_kernel(self):
        seen = set()
        for web, nodes in all_nodes(2, 3, seed=12):
            for node in nodes:
                draft = Draft(web)
                try:
                    paper = draft.paper(lead(draft, node))
                except TooLarge:
                    continue
                before = list(web)
                text = write_paper(paper)
                self.assertEqual(list(nodes_of(paper)), listed(paper))
                self.assertEqual(list(web), before)
                self.assertIsNone(paper_fault(text))
                self.judge_again(paper, text)
                seen.add(web.book.kernel)
        self.assertEqual(seen, set(KERNELS))

    def judge_again(self, paper, text):
        again = read_paper(paper.web.book, text)
        self.assertEqual(write_paper(again), text)
        self.assertIs(again.web.book, paper.web.book)
        left, right = judge(again)
        self.assertEqual(write_web(again.web, left), write_web(paper.web, paper.left))
        self.assertEqual(write_web(again.web, right), write_web(paper.web, paper.right))
        self.assertEqual([row[0] for row in again], [row[0] for row in paper])
        self.assertEqual([row[3] for row in again], [row[3] for row in paper])


class Reading(unittest.TestCase):
    def test_a_paper(self):
        paper = read_paper(BOOK, TEXT)
        self.assertIs(paper.web.book, BOOK)
        self.assertEqual(len(list(paper.web)), 6)
        self.assertEqual(paper.rows, (
            ("idle", 2, 1, ()), ("unit", 1, 0, ()), ("join", 2, 0, (1, 2)),
            ("within", 3, 4, (2,)), ("turn", 0, 2, (3,)), ("like", 5, 5, ())))
        self.assertEqual(judge(paper), (5, 5))
        self.assertEqual(write_paper(paper), TEXT)

    def test_faults(self):
        for text, line, token in (
            ("", 1, 1),
            ("odd 0 0", 1, 1),
            ("like 0 0", 1, 2),
            ("ret 0\nlike", 2, 2),
            ("ret 0\nlike 0", 2, 3),
            ("ret 0\nlike 1 0", 2, 2),
            ("ret 0\nlike 0 1", 2, 3),
            ("ret 0\nlike 00 0", 2, 2),
            ("ret 0\nlike 0 x", 2, 3),
            ("ret 0\nlike 0 0 0", 2, 4),
            ("ret 0\nlike 0 0 :", 2, 5),
            ("ret 0\nlike 0 0 : x", 2, 5),
            ("ret 0\nlike 0 0 : 1 01", 2, 6),
            ("ret 0\nlike 0 0 : 1 :", 2, 6),
            ("ret 0\nlike 0 0 : (", 2, 5),
            # A node behind a row, whatever else may be wrong in its line.
            ("ret 0\nlike 0 0\nret 1", 3, 1),
            ("ret 0\nlike 0 0\nodd", 3, 1),
            ("ret 0\nlike 0 0\n", 3, 1),
            ("ret 0\nlike 0 0\nret  1", 3, 2),
            # A row has sides that have no line yet.
            ("ret 0\nret 1\nlike 2 0", 3, 2),
            ("ret 0\nchoose 0 : 1 0\nlike 0 0", 2, 4),
            ("ret 0\nget 1 0 : 0\nlike 0 0", 2, 3),
            ("ret 0\nlike 0 0 ", 2, 4),
            ("ret 0\n like 0 0", 2, 1),
        ):
            with self.subTest(text):
                self.assertEqual(fault(read_paper, BOOK, text), (line, token))
                self.assertEqual(paper_fault(text), (line, token))

    def test_forty_and_forty_one_digits(self):
        forty, more = "1" * 40, "1" * 41
        self.assertEqual(fault(read_paper, BOOK, f"ret 0\nlike 0 0 : {more}"), (2, 5))
        paper = read_paper(BOOK, f"ret 0\nlike 0 0 : {forty}")
        self.assertEqual(paper.rows, (("like", 0, 0, (int(forty),)),))
        self.assertEqual(fault(read_paper, BOOK, f"ret 0\nlike 0 {forty}"), (2, 3))

    def test_errors_in_their_order(self):
        # All lines are read before a node is made, and all nodes before the paper.
        self.assertEqual(fault(read_paper, BOOK, "ret 0\nget 1 : 0\nlike 0 9"), (3, 3))
        for text in ("ret 0\nget 1 : 0", "ret 0\nget 1 : 0\nlike 0 0", "fail 1 0\nlike 0 0"):
            with self.subTest(text), self.assertRaises(WebError):
                read_paper(BOOK, text)
        with self.assertRaises(PaperError) as caught:
            read_paper(BOOK, "ret 0\nret 0")
        self.assertEqual(caught.exception.row, 0)

    def test_texts_that_are_not_written_so(self):
        for text in ("ret 0\nret 0\nlike 0 0",
                     "ret 0\nret 1\nlike 0 0",
                     "ret 1\nret 0\nlike 1 0",
                     "ret 0\nret 0\nlike 0 1",
                     "ret 0\nret 1\nchoose 0 : 1 0\nlot 2 2",
                     # The first row has a side beside a node of its own.
                     "ret 0\nret 1\nnote 2 0 : 0\nunit 2 0\nlike 1 1"):
            with self.subTest(text), self.assertRaises(WebError):
                read_paper(BOOK, text)
        self.assertEqual(len(read_paper(BOOK, "ret 0\nnote 2 0 : 0\nret 1\nunit 1 0\nlike 2 2").rows), 2)

    def test_reading_does_not_judge(self):
        paper = read_paper(BOOK, "ret 0\nret 1\nswap 0 1 : 8 0\njoin 1 1")
        self.assertEqual(paper.rows, (("swap", 0, 1, (8, 0)), ("join", 1, 1, ())))

    def test_changed_texts(self):
        lines = TEXT.split("\n")
        texts = list(text_changes(TEXT)) + list(line_changes(TEXT))
        others = ["ret", "note", "notes", "like", "join", "odd", ":", "0", "1", "5", "6", "01",
                  "(", ")"]
        for at, line in enumerate(lines):
            for tokens in token_changes(split_line(line), others):
                texts.append("\n".join(lines[:at] + [joined_tokens(tokens)] + lines[at + 1:]))
        texts += ["\n".join(lines[:6]), "ret 0"]
        outcomes = {"fault": 0, "web": 0, "paper": 0, "read": 0}
        for text in texts:
            outcomes[self.check(text)] += 1
        self.assertTrue(all(outcomes.values()), outcomes)

    def check(self, text):
        expected = paper_fault(text)
        try:
            paper = read_paper(BOOK, text)
        except TextError as error:
            self.assertEqual((error.line, error.token), expected, text)
            return "fault"
        except WebError:
            self.assertIsNone(expected, text)
            return "web"
        except PaperError:
            self.assertIsNone(expected, text)
            self.assertFalse([line for line in text.split("\n") if line.split()[0] in ROW_WORDS])
            return "paper"
        self.assertIsNone(expected, text)
        self.assertEqual(write_paper(paper), text)
        self.assertEqual(list(nodes_of(paper)), list(range(len(list(paper.web)))))
        return "read"


if __name__ == "__main__":
    unittest.main()
