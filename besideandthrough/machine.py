"""Machines: running codes step by step."""

from besideandthrough.errors import MachineError
from besideandthrough.plays import Play
from besideandthrough.values import value_text

# The rules below do one instruction. When a rule begins, `at` of the machine is
# already the index that follows, and the rule changes it to go elsewhere.


def _push(machine, instruction):
    machine.stack.append(instruction[1])


def _load(machine, instruction):
    machine.stack.append(machine.names[-1 - instruction[1]])


def _pair(machine, instruction):
    second = machine.stack.pop()
    machine.stack.append((machine.stack.pop(), second))


def _sum(machine, instruction):
    second = machine.stack.pop()
    machine.stack.append(machine.stack.pop() + second)


def _same(machine, instruction):
    second = machine.stack.pop()
    machine.stack.append(1 if machine.stack.pop() == second else 0)


def _first(machine, instruction):
    machine.stack.append(machine.stack.pop()[0])


def _second(machine, instruction):
    machine.stack.append(machine.stack.pop()[1])


def _mod(machine, instruction):
    machine.stack.append(machine.stack.pop() % instruction[1])


def _bind(machine, instruction):
    machine.names.append(machine.stack.pop())


def _unbind(machine, instruction):
    machine.names.pop()


def _jump(machine, instruction):
    machine.at = instruction[1]


def _branch(machine, instruction):
    if machine.stack.pop() == 0:
        machine.at = instruction[1]


def _count(machine, instruction):
    machine.counts.append(instruction[1])


def _again(machine, instruction):
    machine.counts[-1] -= 1
    if machine.counts[-1] == 0:
        machine.counts.pop()
    else:
        machine.at = instruction[1]


def _call(machine, instruction):
    left = len(machine.stack) - instruction[2]
    machine.names.extend(machine.stack[left:])
    del machine.stack[left:]
    machine.calls.append(machine.at)
    machine.at = instruction[1]


def _return(machine, instruction):
    del machine.names[len(machine.names) - instruction[1]:]
    machine.at = machine.calls.pop()


def _try(machine, instruction):
    piles = (machine.stack, machine.names, machine.calls, machine.counts)
    numbers = [len(pile) for pile in piles]
    machine.tries.append((*instruction[1:], *numbers, *machine.play.state))


def _untry(machine, instruction):
    machine.tries.pop()
    machine.at = instruction[1]


def _read(machine, instruction):
    machine.stack.append(machine.play.answer(instruction))


def _write(machine, instruction):
    machine.play.answer((*instruction, machine.stack.pop()))
    machine.stack.append(0)


def _catching(tries, instruction):
    """Returns the index of the last try that catches a failing, or -1."""
    for index in range(len(tries) - 1, -1, -1):
        if tries[index][:2] == instruction[1:]:
            return index
    return -1


def _fail(machine, instruction):
    index = _catching(machine.tries, instruction)
    if index < 0:
        machine.done = True
        return
    layer, _, target, values, names, calls, counts, *state = machine.tries[index]
    del machine.tries[index:]
    del machine.stack[values:]
    del machine.names[names:]
    del machine.calls[calls:]
    del machine.counts[counts:]
    machine.play.restore(layer, state)
    machine.at = target


def _done(machine, instruction):
    machine.done = True


RULES = {
    "push": _push,
    "load": _load,
    "pair": _pair,
    "sum": _sum,
    "same": _same,
    "first": _first,
    "second": _second,
    "mod": _mod,
    "bind": _bind,
    "unbind": _unbind,
    "jump": _jump,
    "branch": _branch,
    "count": _count,
    "again": _again,
    "call": _call,
    "return": _return,
    "try": _try,
    "untry": _untry,
    "choose": _read,
    "draw": _read,
    "get": _read,
    "look": _read,
    "ask": _read,
    "put": _write,
    "note": _write,
    "fail": _fail,
    "done": _done,
}


class Machine:
    """A machine that runs a code over a book, one instruction at each step."""

    def __init__(self, book, code, start, script):
        self.play = Play(book, start, script)
        self.code = tuple(code)
        self.at = 0
        self.steps = 0
        self.deeds = 0
        self.done = False
        self.stack = []
        self.names = []
        self.calls = []
        self.counts = []
        self.tries = []

    @property
    def instruction(self):
        """The next instruction, or None if the machine is done."""
        return None if self.done else self.code[self.at]

    def step(self):
        """Does the next instruction."""
        if self.done:
            raise MachineError("the machine is done")
        at = self.at
        rule = RULES[self.code[at][0]]
        self.at = at + 1
        rule(self, self.code[at])
        self.steps += 1
        self.deeds = self.play.deeds
        if self.done:
            self.at = at

    def outcome(self):
        """Returns the outcome of a machine that is done."""
        if not self.done:
            raise MachineError("the machine is not done")
        if self.code[self.at] == ("done",):
            return self.play.outcome(("ret", value_text(self.stack[-1])))
        return self.play.outcome(self.code[self.at])


def run_code(book, code, *, start, script=()):
    """Returns the outcome of a machine that steps until it is done."""
    machine = Machine(book, code, start, script)
    while not machine.done:
        machine.step()
    return machine.outcome()
