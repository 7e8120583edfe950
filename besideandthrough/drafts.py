"""Drafts: collections of rows from which papers are made."""

from besideandthrough.backs import Backs
from besideandthrough.papers import Paper, rows_for


class Draft:
    """Rows over one web, none of them twice; they are numbered from 1."""

    def __init__(self, web):
        self.web = web
        self.rows = []
        self.numbers = {}
        # Builders read the same terms again and again.
        self.backs = Backs(web)

    def __iter__(self):
        return iter(self.rows)

    def left(self, number):
        """Returns the left side of a row."""
        return self.rows[number - 1][1]

    def right(self, number):
        """Returns the right side of a row."""
        return self.rows[number - 1][2]

    def _is_like(self, number):
        return self.rows[number - 1][0] == "like"

    def _added(self, word, a, b, refs):
        """Returns the number of the row, which is added if there is no equal one."""
        row = (word, a, b, refs)
        if row not in self.numbers:
            self.rows.append(row)
            self.numbers[row] = len(self.rows)
        return self.numbers[row]

    def like(self, node):
        """Returns the number of the row from a node to itself."""
        return self._added("like", node, node, ())

    def turn(self, number):
        """Returns the number of the row that leads the other way."""
        if self._is_like(number):
            return number
        return self._added("turn", self.right(number), self.left(number), (number,))

    def join(self, first, second):
        """Returns the number of the row that leads as one row and then another one."""
        if self._is_like(first):
            return second
        if self._is_like(second):
            return first
        return self._added("join", self.left(first), self.right(second), (first, second))

    def within(self, a, b, refs):
        """Returns the number of the row that leads as the rows of the children do."""
        if a == b:
            return self.like(a)
        return self._added("within", a, b, tuple(refs))

    def by(self, word, a, b):
        """Returns the number of the row of a step by the axiom with a word."""
        if a == b:
            return self.like(a)
        return self._added(word, a, b, ())

    def paper(self, number):
        """Returns the paper of a row: what the row needs, and the row itself."""
        return Paper(self.web, rows_for(self.rows, number))
