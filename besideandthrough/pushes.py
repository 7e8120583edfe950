"""Pushing: how a write goes into the term of a form."""

from besideandthrough.backs import branches
from besideandthrough.moves import is_read, read_first, swapped, under
from besideandthrough.settles import settle
from besideandthrough.webs import ordered


class Pusher:
    """Pushes one put or note into terms over one draft, into each term once."""

    def __init__(self, draft, deed):
        self.draft = draft
        self.deed = deed
        self.rows = {}

    def __call__(self, node):
        """Leads from the deed over the term of a part to the term of the part behind it."""
        if node not in self.rows:
            if is_read(self.draft.web, node):
                self.rows[node] = self._into_reads(node)
            else:
                self.rows[node] = self._into_body(node)
        return self.rows[node]

    def _over(self, node):
        return self.draft.web.make(self.deed, [node])

    def _into_reads(self, node):
        draft = self.draft
        read = draft.web.deed_of(node)
        if read[1] != self.deed[1]:
            return self._exchanged(node, lambda child: self(child))
        child = draft.web.children_of(node)[self.deed[2]]
        row = draft.by("putget", self._over(node), self._over(child))
        row = draft.join(row, self(child))
        return draft.join(row, read_first(draft, read, draft.right(row)))

    def _exchanged(self, node, lead):
        """Exchanges the deed with that of a node, and leads on behind it by a function."""
        row = swapped(self.draft, self._over(node))
        refs = [lead(child) for child in self.draft.web.children_of(node)]
        return self.draft.join(row, under(self.draft, self.draft.right(row), refs))

    def _into_body(self, node):
        web = self.draft.web
        rows = {}
        for each in ordered(node, lambda at: branches(web, at)):
            if branches(web, each):
                rows[each] = self._exchanged(each, lambda child: rows[child])
            else:
                rows[each] = self._into_end(each)
        return self.draft.join(rows[node], settle(self.draft, self.draft.right(rows[node])))

    def _into_end(self, node):
        draft = self.draft
        deed = draft.web.deed_of(node)
        if deed[0] in ("put", "note"):
            if deed[1] == self.deed[1]:
                return self._into_own(node)
            return self._exchanged(node, lambda child: self._into_end(child))
        if deed[0] == "ask":
            return self._exchanged(node, lambda child: self(child))
        return swapped(draft, self._over(node))

    def _into_own(self, node):
        draft = self.draft
        if self.deed[0] == "put":
            return draft.by("putput", self._over(node), node)
        return noted_once(draft, self._over(node))


def noted_once(draft, node):
    """Leads from a note over a note of the same layer to the note of their product."""
    web = draft.web
    word, layer, member = web.deed_of(node)
    child = web.children_of(node)[0]
    product = web.book.product(layer, member, web.deed_of(child)[2])
    made = web.make((word, layer, product), web.children_of(child))
    return draft.by("notes", node, made)


def push(draft, deed, node):
    """Leads from a put or a note over the term of a form to the term of the form behind it."""
    pusher = Pusher(draft, deed)
    return pusher(node)
