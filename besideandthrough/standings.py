"""The texts of the standings of machines."""

from besideandthrough.errors import MachineError, TextError
from besideandthrough.lines import Line
from besideandthrough.machine import Machine
from besideandthrough.values import last_value_in, value_text
from besideandthrough.webtexts import MOST_DIGITS

# The words of the lines of which there is one each, and then those of the piles.
SINGLES = ("at", "done", "steps", "taken", "deeds", "state")
PILES = ("value", "name", "call", "count", "try", "asked")


def _line(word, numbers):
    """Returns the line of a word and numbers."""
    return " ".join([word, *[str(number) for number in numbers]])


def _asked_numbers(told):
    """Returns the numbers in the line of a tuple of the trail."""
    layer, outside, kept, answer, entries = told
    return layer, outside, answer, *kept, *entries


def write_standing(machine):
    """Returns the text of a machine's standing."""
    play = machine.play
    singles = (machine.at, 1 if machine.done else 0, machine.steps, play.taken, play.deeds)
    lines = [_line(word, (number,)) for word, number in zip(SINGLES, singles)]
    lines.append(_line("state", play.state))
    lines.extend([f"value {value_text(value)}" for value in machine.stack])
    lines.extend([f"name {value_text(value)}" for value in machine.names])
    lines.extend([_line("call", (index,)) for index in machine.calls])
    lines.extend([_line("count", (number,)) for number in machine.counts])
    lines.extend([_line("try", entry) for entry in machine.tries])
    lines.extend([_line("asked", _asked_numbers(told)) for told in play.trail])
    return "\n".join(lines)


def _is_full(book, word, numbers):
    """Returns True if there are as many numbers as the line of a word has."""
    if word == "state":
        return len(numbers) == book.size
    if word == "try":
        return len(numbers) == book.size + 7
    if word == "asked":
        return len(numbers) > 2 and len(numbers) == 2 * numbers[0] + 1
    return len(numbers) == 1


def _entry_in(book, line):
    """Takes a line: returns its word, and the value or the list of the numbers behind it."""
    word = line.take(line.here() in SINGLES or line.here() in PILES)
    if word in ("value", "name"):
        return word, last_value_in(line)
    numbers = []
    while line.here():
        numbers.append(line.whole(MOST_DIGITS))
    line.need(_is_full(book, word, numbers))
    return word, numbers


def _are_in_order(words):
    """Returns True if the lines of a standing may have these words, in this order."""
    if tuple(words[:len(SINGLES)]) != SINGLES:
        return False
    rest = words[len(SINGLES):]
    return rest == [word for pile in PILES for word in rest if word == pile]


def _told_by(numbers):
    """Returns the tuple of the trail that the numbers of a line tell."""
    layer, outside, answer, *entries = numbers
    beneath = layer - 1
    return layer, outside, tuple(entries[:beneath]), answer, tuple(entries[beneath:])


def _rows_in(book, code, text):
    """Returns the entries of the lines of a standing."""
    lines = text.split("\n")
    rows = [_entry_in(book, Line(row, at + 1)) for at, row in enumerate(lines)]
    if not _are_in_order([word for word, _ in rows]):
        raise MachineError("the lines of a standing are not in order")
    if rows[0][1][0] >= len(code) or rows[1][1][0] > 1:
        raise MachineError("the machine cannot stand there")
    return rows


def read_standing(book, code, script, text):
    """Returns a new machine with the standing that a text writes."""
    try:
        rows = _rows_in(book, code, text)
    except TextError:
        raise MachineError("a line of a standing is not in its form") from None
    at, done, steps, taken, deeds, state = [entry for _, entry in rows[:len(SINGLES)]]
    machine = Machine(book, code, state, script)
    machine.at = at[0]
    machine.done = done[0] == 1
    machine.steps = steps[0]
    machine.play.taken = taken[0]
    machine.play.deeds = machine.deeds = deeds[0]
    machine.stack = [entry for word, entry in rows if word == "value"]
    machine.names = [entry for word, entry in rows if word == "name"]
    machine.calls = [entry[0] for word, entry in rows if word == "call"]
    machine.counts = [entry[0] for word, entry in rows if word == "count"]
    machine.tries = [tuple(entry) for word, entry in rows if word == "try"]
    machine.play.trail = [_told_by(entry) for word, entry in rows if word == "asked"]
    return machine


def standings(book, code, *, start, script=()):
    """Yields the texts of the standings of a machine, before and after each of its steps."""
    machine = Machine(book, code, start, script)
    yield write_standing(machine)
    while not machine.done:
        machine.step()
        yield write_standing(machine)
