"""The bench: named programs, and changes that can be taken back."""

from besideandthrough.apart import one_then_other
from besideandthrough.errors import BenchError
from besideandthrough.forms import form_of
from besideandthrough.kinds import check
from besideandthrough.reader import read_program
from besideandthrough.slimming import slimmed
from besideandthrough.tokens import is_name
from besideandthrough.unfolding import unfold
from besideandthrough.verdicts import verdict
from besideandthrough.webruns import run_web
from besideandthrough.webs import Web
from besideandthrough.webtexts import write_web

WORDS = ("store", "join", "slim", "forget")


def _needed(change):
    """Returns the names of the programs that a change needs."""
    if change[0] == "join":
        return change[2:]
    return change[1:] if change[0] in ("slim", "forget") else ()


def _stored(web, text):
    """Returns the node of the program that a text writes."""
    program = read_program(text)
    check(web.book, program)
    return unfold(web, program, limit=400)


class Bench:
    """Named programs over one book, kept as nodes of a web."""

    def __init__(self, book):
        self.book = book
        self.web = Web(book)
        self.programs = {}
        # Each entry has a change and the programs before it, or after it if it was taken back.
        self.done = []
        self.taken_back = []

    @property
    def titles(self):
        """The list of the names of all programs, ascending."""
        return sorted(self.programs)

    @property
    def history(self):
        """The list of the changes that stand, the first one first."""
        return [change for change, _ in self.done]

    def _node(self, name):
        if name not in self.programs:
            raise BenchError("there is no such program")
        return self.programs[name]

    def _changed(self, programs, change):
        """Returns a dict of the programs as they are behind a change."""
        word, name = change[:2]
        if not is_name(name):
            raise BenchError("the name of a program is not a name")
        if word not in WORDS:
            raise BenchError("there is no such change")
        for other in _needed(change):
            if other not in programs:
                raise BenchError("there is no such program")
        found = dict(programs)
        if word == "forget":
            del found[name]
        else:
            found[name] = self._made(programs, change)
        return found

    def _made(self, programs, change):
        """Returns the node that a change gives to a name."""
        word, name = change[:2]
        if word == "store":
            return _stored(self.web, change[2])
        if word == "slim":
            return slimmed(self.web, programs[name])[0]
        return one_then_other(self.web, programs[change[2]], programs[change[3]])

    def change(self, change):
        """Makes one change."""
        self.perform([change])

    def perform(self, changes):
        """Makes several changes, or none of them if one is refused."""
        programs = self.programs
        done = []
        for change in changes:
            done.append((change, programs))
            programs = self._changed(programs, change)
        if done:
            self.programs = programs
            self.done.extend(done)
            self.taken_back = []

    def back(self):
        """Takes the last change back."""
        if not self.done:
            raise BenchError("no change stands")
        change, programs = self.done.pop()
        self.taken_back.append((change, self.programs))
        self.programs = programs

    def again(self):
        """Makes the change again that was taken back last."""
        if not self.taken_back:
            raise BenchError("no change was taken back")
        change, programs = self.taken_back.pop()
        self.done.append((change, self.programs))
        self.programs = programs

    def form(self, name):
        """Returns the form of a program."""
        return form_of(self.web, self._node(name))

    def text(self, name):
        """Returns the text of the web of a program."""
        return write_web(self.web, self._node(name))

    def compare(self, one, other):
        """Returns the verdict about two programs."""
        return verdict(self.web, self._node(one), self._node(other))

    def run(self, name, *, start, script=()):
        """Returns the outcome of a run of the web of a program."""
        return run_web(self.web, self._node(name), start=start, script=script)

    @staticmethod
    def replayed(book, changes):
        """Returns a new bench on which changes have been performed."""
        bench = Bench(book)
        bench.perform(changes)
        return bench
