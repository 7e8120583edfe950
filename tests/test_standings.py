import unittest

from besideandthrough.books import Book
from besideandthrough.compiling import compiled
from besideandthrough.errors import MachineError
from besideandthrough.machine import Machine, run_code
from besideandthrough.reader import read_program
from besideandthrough.standings import read_standing, standings, write_standing
from besideandthrough.states import starts
from tests.helpers import line_changes, text_changes
from tests.programs import programs, scripts

BOOK = Book("choose", [("cell", "c", 2), ("outside", "o", (2,)), ("fail", "f", 1),
                       ("cell", "d", 3)])
CODE = compiled(BOOK, read_program(
    "fun f (x 2) = (ask o 0)\n"
    "main = (try f 0 (let x (pair 1 2) (repeat 2 y 0 (let z (put d 1) (call f y)))) 0)"))
# A text with several lines of each pile; the machine could not have come there.
TEXT = "\n".join([
    "at 3", "done 0", "steps 17", "taken 2", "deeds 4", "state 1 0 0 2",
    "value 0", "value (1 (2 999))", "name 7", "name (0 0)", "call 4", "call 5",
    "count 1", "count 2", "try 3 0 9 0 1 2 3 1 0 0 2", "try 3 0 8 5 6 7 8 0 0 0 1",
    "asked 2 0 1 0 1", "asked 1 5 6"])
NUMBER = "1234567890" * 4


def is_number(token):
    digits = token != "" and all(sign in "0123456789" for sign in token)
    return digits and len(token) <= 40 and (token == "0" or token[0] != "0")


def is_value(tokens):
    """Tells whether tokens are those of one value: the innermost pairs vanish first."""
    text = " ".join("v" if is_number(token) and len(token) <= 3 else token for token in tokens)
    for _ in range(4):
        text = text.replace("( v v )", "v")
    return text == "v"


def is_standing(text, size, many):
    """Tells whether a text is in the form of point [56]."""
    place = 0
    words = ["at", "done", "steps", "taken", "deeds", "state",
             "value", "name", "call", "count", "try", "asked"]
    lines = text.split("\n")
    if len(lines) < 6:
        return False
    for at, line in enumerate(lines):
        tokens = line.replace("(", "( ").replace(")", " )").split(" ")
        glued = " ".join(tokens).replace("( ", "(").replace(" )", ")")
        if glued != line or "" in tokens or "\n" in line:
            return False
        word, rest = tokens[0], tokens[1:]
        if word not in words or (at < 6 and word != words[at]):
            return False
        if at >= 6 and (words.index(word) < 6 or words.index(word) < place):
            return False
        place = words.index(word)
        if word in ("value", "name"):
            if not is_value(rest):
                return False
            continue
        if not all(is_number(token) for token in rest):
            return False
        numbers = [int(token) for token in rest]
        if word == "asked":
            if not numbers or numbers[0] < 1 or len(numbers) != 2 * numbers[0] + 1:
                return False
        elif len(numbers) != {"state": size, "try": size + 7}.get(word, 1):
            return False
        if word == "at" and numbers[0] >= many or word == "done" and numbers[0] > 1:
            return False
    return True


class Texts(unittest.TestCase):
    def read(self, text):
        return read_standing(BOOK, CODE, (), text)

    def refused(self, text):
        with self.assertRaises(MachineError):
            self.read(text)

    def changed(self, at, line):
        lines = TEXT.split("\n")
        lines[at] = line
        return "\n".join(lines)

    def test_the_standing_of_a_new_machine(self):
        machine = Machine(BOOK, CODE, (1, 0, 0, 2), ())
        self.assertEqual(write_standing(machine), "\n".join([
            "at 0", "done 0", "steps 0", "taken 0", "deeds 0", "state 1 0 0 2"]))
        book = Book("none", ())
        machine = Machine(book, compiled(book, read_program("main = 5")), (), ())
        self.assertEqual(write_standing(machine).split("\n")[-1], "state")
        for _ in range(3):
            machine.step()
        self.assertEqual(write_standing(machine), "\n".join([
            "at 2", "done 1", "steps 3", "taken 0", "deeds 0", "state", "value 5"]))

    def test_a_standing_in_the_middle_of_a_run(self):
        texts = list(standings(BOOK, CODE, start=(1, 0, 0, 2), script=[7, 6]))
        self.assertEqual(texts[17], "\n".join([
            "at 17", "done 0", "steps 17", "taken 1", "deeds 2", "state 1 0 0 1",
            "value 1", "name (1 2)", "name 0", "count 2",
            "try 3 0 21 0 0 0 0 1 0 0 2", "asked 2 0 1 1 1"]))

    def test_reading_returns_what_was_written(self):
        machine = self.read(TEXT)
        self.assertIsInstance(machine, Machine)
        self.assertEqual((machine.at, machine.steps, machine.deeds), (3, 17, 4))
        self.assertIs(machine.done, False)
        self.assertEqual(machine.instruction, CODE[3])
        self.assertEqual(write_standing(machine), TEXT)
        done = self.read(self.changed(1, "done 1"))
        self.assertIs(done.done, True)
        self.assertIsNone(done.instruction)
        self.assertEqual(write_standing(done), self.changed(1, "done 1"))
        with self.assertRaises(MachineError):
            done.step()
        with self.assertRaises(MachineError):
            machine.outcome()

    def test_numbers_of_one_and_of_forty_digits(self):
        for at, line in ((2, "steps N"), (3, "taken N"), (4, "deeds N"), (5, "state N 0 N 0"),
                         (10, "call N"), (13, "count N"),
                         (14, "try N N N N N N N N N N N"), (16, "asked 2 N N N N"),
                         (17, "asked 1 N N")):
            for number in ("0", "9", NUMBER):
                text = self.changed(at, line.replace("N", number))
                self.assertEqual(write_standing(self.read(text)), text)
            for number in (NUMBER + "0", "00", "01", "0" + NUMBER[1:], "-1", "x", ""):
                self.refused(self.changed(at, line.replace("N", number)))

    def test_places_at_their_bounds(self):
        for at, line in ((0, f"at {len(CODE) - 1}"), (0, "at 0"), (1, "done 0"), (1, "done 1")):
            text = self.changed(at, line)
            self.assertEqual(write_standing(self.read(text)), text)
        for at, line in ((0, f"at {len(CODE)}"), (0, f"at {NUMBER}"), (1, "done 2"),
                         (1, f"done {NUMBER}")):
            self.refused(self.changed(at, line))
        # Indexes elsewhere are not checked.
        text = self.changed(10, f"call {len(CODE)}")
        self.assertEqual(write_standing(self.read(text)), text)

    def test_how_many_numbers_there_are(self):
        lines = TEXT.split("\n")
        for at, line in enumerate(lines):
            self.refused(self.changed(at, line + " 0"))
            self.refused(self.changed(at, line.rsplit(" ", 1)[0]))
            self.refused(self.changed(at, line.split(" ")[0]))
        for line in ("asked", "asked 0", "asked 0 0", "asked 0 0 0", "asked 1 0", "asked 2 0 0",
                     "asked 2 0 0 0", f"asked {NUMBER} 0 0"):
            self.refused(self.changed(16, line))
        for line in ("asked 1 0 0", "asked 3 0 0 0 0 0 0", "asked 9" + " 0" * 18):
            text = self.changed(17, line)
            self.assertEqual(write_standing(self.read(text)), text)

    def test_values(self):
        deep = "((((1 2) 3) 4) 5)"
        for word, at in (("value", 7), ("name", 8)):
            text = self.changed(at, f"{word} {deep}")
            self.assertEqual(write_standing(self.read(text)), text)
            for value in (f"({deep} 0)", "1000", "01", "(1)", "(1 2 3)", "1 2", "(1 2", "x", "",
                          "( 1 2)", "(1  2)"):
                self.refused(self.changed(at, f"{word} {value}"))

    def test_lines_in_order(self):
        for text in line_changes(TEXT):
            if is_standing(text, 4, len(CODE)):
                self.assertEqual(write_standing(self.read(text)), text)
            else:
                self.refused(text)
        self.refused("")
        self.refused(TEXT + "\n")
        lines = TEXT.split("\n")
        for many in range(6):
            self.refused("\n".join(lines[:many]))
        for many in range(6, len(lines)):
            text = "\n".join(lines[:many])
            self.assertEqual(write_standing(self.read(text)), text)

    def test_changed_characters(self):
        counts = [0, 0]
        for text in text_changes(TEXT, " \n()01a"):
            if is_standing(text, 4, len(CODE)):
                counts[0] += 1
                self.assertEqual(write_standing(self.read(text)), text)
            else:
                counts[1] += 1
                self.refused(text)
        self.assertGreater(min(counts), 30)

    def test_changed_words(self):
        words = ("at", "done", "state", "value", "name", "call", "count", "try", "asked", "0", ":")
        for at, line in enumerate(TEXT.split("\n")):
            for word in words:
                text = self.changed(at, " ".join([word, *line.split(" ")[1:]]))
                if is_standing(text, 4, len(CODE)):
                    self.assertEqual(write_standing(self.read(text)), text)
                else:
                    self.refused(text)


class GoingOn(unittest.TestCase):
    def test_from_each_standing(self):
        for book, program in programs(5):
            code = compiled(book, program)
            start = starts(book)[-1]
            for script in scripts(len(code), 3):
                texts = list(standings(book, code, start=start, script=script))
                outcome = run_code(book, code, start=start, script=script)
                for at in range(0, len(texts), 3):
                    machine = read_standing(book, code, list(script), texts[at])
                    self.assertEqual(write_standing(machine), texts[at])
                    for text in texts[at + 1:]:
                        machine.step()
                        self.assertEqual(write_standing(machine), text)
                    self.assertIs(machine.done, True)
                    self.assertEqual(machine.outcome(), outcome)

    def test_before_the_first_step_and_after_each(self):
        for script in ((), [3, 2]):
            texts = list(standings(BOOK, CODE, start=(0, 0, 0, 1), script=script))
            machine = Machine(BOOK, CODE, (0, 0, 0, 1), script)
            self.assertEqual(texts[0], write_standing(machine))
            for text in texts[1:]:
                machine.step()
                self.assertEqual(text, write_standing(machine))
            self.assertTrue(machine.done)
            self.assertEqual([text.split("\n")[1] for text in texts],
                             ["done 0"] * (len(texts) - 1) + ["done 1"])

    def test_nothing_is_shared(self):
        text = list(standings(BOOK, CODE, start=(1, 0, 0, 2), script=[7, 6]))[17]
        script = [7, 6]
        one = read_standing(BOOK, CODE, script, text)
        other = read_standing(BOOK, CODE, script, text)
        script.clear()
        while not one.done:
            one.step()
        self.assertEqual(one.outcome(),
                         run_code(BOOK, CODE, start=(1, 0, 0, 2), script=[7, 6]))
        self.assertEqual(write_standing(other), text)
        self.assertEqual(script, [])


if __name__ == "__main__":
    unittest.main()
