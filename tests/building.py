"""Checks what the functions that add rows to a draft do."""

from besideandthrough.papers import judge


class Building:
    """A draft and a web as they were before a call; used as a context around it."""

    def __init__(self, test, draft):
        self.test = test
        self.draft = draft

    def __enter__(self):
        self.rows = list(self.draft.rows)
        self.nodes = list(self.draft.web)
        return self

    def __exit__(self, kind, value, trace):
        self.test.assertEqual(self.draft.rows[:len(self.rows)], self.rows)
        self.test.assertEqual(list(self.draft.web)[:len(self.nodes)], self.nodes)
        self.test.assertEqual(len(set(self.draft.rows)), len(self.draft.rows))


def led(test, draft, call, *given):
    """The node to which the row leads that a call returns; the judge takes its paper."""
    with Building(test, draft):
        number = call(draft, *given)
    paper = draft.paper(number)
    test.assertIs(paper.web, draft.web)
    sides = judge(paper)
    test.assertEqual(sides, (draft.left(number), draft.right(number)))
    test.assertEqual(sides[0], paper.left)
    return sides
