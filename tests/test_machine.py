import unittest

from besideandthrough.books import Book
from besideandthrough.compiling import compiled
from besideandthrough.errors import MachineError
from besideandthrough.machine import Machine, run_code
from besideandthrough.reader import read_program
from besideandthrough.running import run
from besideandthrough.standings import write_standing
from besideandthrough.states import starts
from tests.helpers import LEFT, SIGNS
from tests.programs import programs, scripts

BOOK = Book("spread", [("setting", "s", 3), ("cell", "c", 2), ("note", "n", LEFT),
                       ("fail", "f", 2), ("cell", "d", 2)])
START = (1, 0, 0, 0, 1)


def piles(machine):
    """The lines of the piles in the text of a machine's standing."""
    return write_standing(machine).split("\n")[6:]


class Steps(unittest.TestCase):
    def machine(self, *code, script=(), book=BOOK, start=START):
        return Machine(book, code, start, script)

    def after(self, many, *code, script=()):
        """The index and the piles after some steps of a code."""
        machine = self.machine(*code, script=script)
        for at in range(many):
            self.assertEqual(machine.steps, at)
            machine.step()
        self.assertEqual(machine.steps, many)
        return machine.at, piles(machine)

    def test_a_new_machine(self):
        machine = self.machine(("push", 1), ("done",))
        self.assertEqual((machine.at, machine.steps, machine.deeds), (0, 0, 0))
        self.assertIs(machine.done, False)
        self.assertEqual(machine.instruction, ("push", 1))
        self.assertEqual(piles(machine), [])
        with self.assertRaises(AttributeError):
            machine.instruction = ("done",)

    def test_values(self):
        one, two, three = ("push", 1), ("push", 2), ("push", 3)
        self.assertEqual(self.after(2, one, two), (2, ["value 1", "value 2"]))
        self.assertEqual(self.after(4, three, one, two, ("pair",)),
                         (4, ["value 3", "value (1 2)"]))
        self.assertEqual(self.after(4, three, one, two, ("sum",)), (4, ["value 3", "value 3"]))
        self.assertEqual(self.after(3, one, two, ("same",)), (3, ["value 0"]))
        self.assertEqual(self.after(3, two, two, ("same",)), (3, ["value 1"]))
        self.assertEqual(self.after(4, one, two, ("pair",), ("first",)), (4, ["value 1"]))
        self.assertEqual(self.after(4, one, two, ("pair",), ("second",)), (4, ["value 2"]))
        self.assertEqual(self.after(3, two, ("push", 8), ("mod", 3)), (3, ["value 2"] * 2))

    def test_names(self):
        code = [("push", 5), ("bind",), ("push", 6), ("bind",), ("load", 0), ("load", 1),
                ("unbind",)]
        self.assertEqual(self.after(4, *code), (4, ["name 5", "name 6"]))
        self.assertEqual(self.after(6, *code),
                         (6, ["value 6", "value 5", "name 5", "name 6"]))
        self.assertEqual(self.after(7, *code), (7, ["value 6", "value 5", "name 5"]))

    def test_going_elsewhere(self):
        self.assertEqual(self.after(1, ("jump", 4)), (4, []))
        self.assertEqual(self.after(2, ("push", 0), ("branch", 7)), (7, []))
        self.assertEqual(self.after(2, ("push", 1), ("branch", 7)), (2, []))
        self.assertEqual(self.after(2, ("push", 2), ("branch", 7)), (2, []))

    def test_counts(self):
        code = (("count", 2), ("count", 3), ("again", 2), ("done",))
        self.assertEqual(self.after(2, *code), (2, ["count 2", "count 3"]))
        self.assertEqual(self.after(3, *code), (2, ["count 2", "count 2"]))
        self.assertEqual(self.after(4, *code), (2, ["count 2", "count 1"]))
        self.assertEqual(self.after(5, *code), (3, ["count 2"]))
        self.assertEqual(self.after(2, ("count", 1), ("again", 0)), (2, []))

    def test_calls(self):
        code = (("push", 1), ("push", 2), ("push", 3), ("call", 5, 2), ("done",),
                ("call", 7, 0), ("return", 2), ("return", 0))
        self.assertEqual(self.after(4, *code),
                         (5, ["value 1", "name 2", "name 3", "call 4"]))
        self.assertEqual(self.after(5, *code),
                         (7, ["value 1", "name 2", "name 3", "call 4", "call 6"]))
        self.assertEqual(self.after(6, *code),
                         (6, ["value 1", "name 2", "name 3", "call 4"]))
        self.assertEqual(self.after(7, *code), (4, ["value 1"]))

    def test_deeds(self):
        book = Book("spread", [*BOOK.layers[:3], ("outside", "o", (3, 1))])
        code = (("choose", 0), ("draw", 0, 2, 5), ("draw", 0, 2, 5), ("get", 2), ("look", 1),
                ("ask", 4, 0), ("push", 1), ("put", 2), ("push", 2), ("note", 3), ("ask", 4, 1))
        machine = self.machine(*code, script=[7, 6, 7, 14, 5], book=book, start=(1, 0, 0, 0))
        for _ in code[:-1]:
            machine.step()
        # 14 = 2 + 3 * 4: answer 2, and 4 is 1 for the setting and then 1 for the cell.
        self.assertEqual(write_standing(machine).split("\n"), [
            "at 10", "done 0", "steps 10", "taken 4", "deeds 8", "state 1 1 2 0",
            "value 1", "value 0", "value 1", "value 0", "value 1", "value 2", "value 0", "value 0",
            "asked 4 0 2 0 0 0 1 1 0"])
        self.assertEqual(machine.deeds, 8)
        machine.step()
        self.assertEqual(write_standing(machine).split("\n")[-2:], [
            "asked 4 0 2 0 0 0 1 1 0", "asked 4 1 0 0 1 2 2 1 0"])

    def test_tries(self):
        code = (("push", 9), ("bind",), ("push", 8), ("try", 4, 1, 12), ("try", 4, 0, 13),
                ("untry", 11))
        self.assertEqual(self.after(5, *code), (5, [
            "value 8", "name 9", "try 4 1 12 1 1 0 0 1 0 0 0 1",
            "try 4 0 13 1 1 0 0 1 0 0 0 1"]))
        self.assertEqual(self.after(6, *code), (11, [
            "value 8", "name 9", "try 4 1 12 1 1 0 0 1 0 0 0 1"]))

    def test_a_failing_that_is_caught(self):
        code = [("push", 1), ("bind",), ("push", 4), ("count", 3), ("try", 4, 1, 20),
                ("try", 4, 0, 21), ("push", 7), ("bind",), ("push", 0), ("put", 5), ("push", 1),
                ("put", 2), ("count", 2), ("call", 14, 1), ("try", 4, 0, 22), ("push", 2),
                ("note", 3), ("fail", 4, 1)]
        machine = self.machine(*code)
        for _ in code:
            machine.step()
        # The cell above the layer is set back; the cell and the notes beneath it stay.
        self.assertEqual(write_standing(machine).split("\n"), [
            "at 20", "done 0", f"steps {len(code)}", "taken 0", "deeds 3", "state 1 1 2 0 1",
            "value 4", "name 1", "count 3"])
        self.assertEqual(machine.deeds, 3)
        code[-1] = ("fail", 4, 0)
        machine = self.machine(*code)
        for _ in code:
            machine.step()
        # The last try of the kind catches it: what stood before it was added stays.
        self.assertEqual(machine.at, 22)
        self.assertEqual(piles(machine), [
            "value 4", "value 0", "name 1", "name 7", "name 0", "call 14", "count 3", "count 2",
            "try 4 1 20 1 1 0 1 1 0 0 0 1", "try 4 0 21 1 1 0 1 1 0 0 0 1"])

    def test_another_layer_does_not_catch(self):
        book = Book("none", [("fail", "f", 2), ("fail", "g", 2)])
        machine = self.machine(("try", 1, 1, 5), ("try", 2, 0, 6), ("try", 1, 0, 7), ("fail", 2, 1),
                               book=book, start=(0, 0))
        for _ in range(4):
            machine.step()
        self.assertTrue(machine.done)
        self.assertEqual(len(piles(machine)), 3)
        self.assertEqual(machine.outcome(), ((), ("fail", 2, 1, (0,))))

    def test_done(self):
        machine = self.machine(("push", 3), ("push", 4), ("done",))
        machine.step()
        machine.step()
        self.assertEqual(machine.instruction, ("done",))
        self.assertIs(machine.done, False)
        machine.step()
        self.assertIs(machine.done, True)
        self.assertEqual((machine.at, machine.steps), (2, 3))
        self.assertIsNone(machine.instruction)
        self.assertEqual(piles(machine), ["value 3", "value 4"])
        self.assertEqual(machine.outcome(), ((), ("done", "4", (0, 0, 0, 0, 1))))

    def test_a_failing_that_is_not_caught(self):
        machine = self.machine(("jump", 2), ("done",), ("fail", 4, 1))
        machine.step()
        machine.step()
        self.assertIs(machine.done, True)
        self.assertEqual(machine.at, 2)
        self.assertIsNone(machine.instruction)
        self.assertEqual(machine.deeds, 0)
        self.assertEqual(machine.outcome(), ((), ("fail", 4, 1, (0, 0, 0))))


class Errors(unittest.TestCase):
    def machine(self, text, script=()):
        code = compiled(BOOK, read_program(text))
        return Machine(BOOK, code, START, script)

    def test_a_machine_that_is_done_makes_no_step(self):
        for text in ("main = (put c 1)", "main = (let x (put c 1) (fail f 0))"):
            machine = self.machine(text)
            while not machine.done:
                with self.assertRaises(MachineError):
                    machine.outcome()
                machine.step()
            before = write_standing(machine)
            outcome = machine.outcome()
            for _ in range(2):
                with self.assertRaises(MachineError):
                    machine.step()
            self.assertEqual(write_standing(machine), before)
            self.assertEqual(machine.outcome(), outcome)

    def test_what_the_machine_is_made_of_stays(self):
        code = [("choose", 0), ("choose", 0), ("pair",), ("done",)]
        script = [1, 0]
        start = START
        machine = Machine(BOOK, tuple(code), start, script)
        script[0] = 0
        script.append(1)
        while not machine.done:
            machine.step()
        self.assertEqual(machine.outcome(), ((), ("done", "(1 0)", (0, 0, 0, 0, 1))))
        self.assertEqual((start, script), ((1, 0, 0, 0, 1), [0, 0, 1]))

    def test_machines_do_not_share_anything(self):
        code = compiled(BOOK, read_program("main = (repeat 3 x 0 (sum x (let y (put c 1) 1)))"))
        one = Machine(BOOK, code, START, ())
        other = Machine(BOOK, code, START, ())
        before = write_standing(other)
        while not one.done:
            one.step()
        self.assertEqual(write_standing(other), before)


class Runs(unittest.TestCase):
    def test_small_programs(self):
        book = Book("choose", [("fail", "f", 1), ("cell", "c", 2), ("note", "n", SIGNS)])
        for text, outcome in (
                ("main = (repeat 4 x 0 (sum x 2))", ("done", "8", (0, 1, 0))),
                ("main = (try f 0 (let x (put c 0) (let y (note n 1) (fail f 0))) (get c))",
                 ("done", "1", (0, 1, 0))),
                ("main = (try f 0 (let x (put c 0) 5) (get c))", ("done", "5", (0, 0, 0))),
                ("fun f (x 3) (y 3) = (pair x y)\nmain = (call f 1 2)",
                 ("done", "(1 2)", (0, 1, 0))),
                ("main = (let x (note n 1) (fail f 0))", ("fail", 1, 0, ())),
                # A function that fails within a call within a repeat.
                ("fun f (x 3) = (if x (fail f 0) 7)\n"
                 "main = (repeat 3 x 0 (try f 0 (mod (call f x) 3) 0))",
                 ("done", "1", (0, 1, 0)))):
            code = compiled(book, read_program(text))
            self.assertEqual(run_code(book, code, start=(0, 1, 0)), ((), outcome))
            self.assertEqual(run_code(book, code, start=(0, 1, 0), script=[3]), ((), outcome))

    def test_many_programs(self):
        for book, program in programs(10, depth=5):
            code = compiled(book, program)
            for start in starts(book):
                for script in scripts(len(code), 4):
                    self.assertEqual(run_code(book, code, start=start, script=script),
                                     run(book, program, start=start, script=script))


if __name__ == "__main__":
    unittest.main()
