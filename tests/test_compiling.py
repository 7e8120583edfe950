import unittest

from besideandthrough.books import Book
from besideandthrough.compiling import compiled
from besideandthrough.reader import read_program
from tests.helpers import LEFT
from tests.programs import programs

BOOK = Book("spread", [("setting", "s", 3), ("cell", "c", 2), ("fail", "f", 2),
                       ("outside", "o", (3, 1)), ("note", "n", LEFT)])


def code_of(*lines):
    return compiled(BOOK, read_program("\n".join(lines)))


def code_at(expression, base, bound, begins, number):
    """The code of an expression that begins at an index, by the words of point [52]."""
    word, *rest = expression

    def coded(*parts):
        code = []
        for part in parts:
            code += code_at(part, base + len(code), bound, begins, number)
        return code

    if word == "num":
        return [("push", rest[0])]
    if word == "var":
        last = max(at for at, name in enumerate(bound) if name == rest[0])
        return [("load", len(bound) - 1 - last)]
    if word in ("pair", "first", "second", "sum", "same"):
        return coded(*rest) + [(word,)]
    if word == "mod":
        return coded(rest[0]) + [("mod", rest[1])]
    if word == "let":
        code = coded(rest[1]) + [("bind",)]
        inner = code_at(rest[2], base + len(code), bound + [rest[0]], begins, number)
        return code + inner + [("unbind",)]
    if word == "if":
        test = coded(rest[0])
        one = code_at(rest[1], base + len(test) + 1, bound, begins, number)
        t = base + len(test) + 1 + len(one) + 1
        other = code_at(rest[2], t, bound, begins, number)
        return test + [("branch", t)] + one + [("jump", t + len(other))] + other
    if word == "repeat":
        code = coded(rest[2]) + [("count", rest[0])]
        t = base + len(code)
        inner = code_at(rest[3], t + 1, bound + [rest[1]], begins, number)
        return code + [("bind",)] + inner + [("unbind",), ("again", t)]
    if word == "call":
        return coded(*rest[1]) + [("call", begins[rest[0]], len(rest[1]))]
    if word in ("choose", "draw"):
        return [expression]
    if word in ("put", "note"):
        return coded(rest[1]) + [(word, number(rest[0]))]
    if word == "try":
        one = code_at(rest[2], base + 1, bound, begins, number)
        t = base + 1 + len(one) + 1
        other = code_at(rest[3], t, bound, begins, number)
        return [("try", number(rest[0]), rest[1], t), *one, ("untry", t + len(other)), *other]
    return [(word, number(rest[0]), *rest[1:])]


def program_code(book, program):
    """The code of a program by the words of point [53]."""
    begins = {}
    code = [None]
    for name, parameters, body in program[0]:
        begins[name] = len(code)
        bound = [parameter for parameter, _ in parameters]
        code += code_at(body, len(code), bound, begins, book.number_of)
        code.append(("return", len(parameters)))
    code[0] = ("jump", len(code))
    code += code_at(program[1], len(code), [], begins, book.number_of)
    return tuple(code + [("done",)])


class Codes(unittest.TestCase):
    def main_code(self, expression):
        code = code_of("main = " + expression)
        self.assertEqual(code[0], ("jump", 1))
        self.assertEqual(code[-1], ("done",))
        return code[1:-1]

    def test_the_example_of_the_document(self):
        self.assertEqual(code_of("fun f (x 2) = (sum x 1)", "main = (let y (choose 0) (call f y))"), (
            ("jump", 5), ("load", 0), ("push", 1), ("sum",), ("return", 1), ("choose", 0),
            ("bind",), ("load", 0), ("call", 1, 1), ("unbind",), ("done",)))

    def test_values(self):
        self.assertEqual(self.main_code("7"), (("push", 7),))
        self.assertEqual(self.main_code("(mod (sum 1 2) 3)"),
                         (("push", 1), ("push", 2), ("sum",), ("mod", 3)))
        self.assertEqual(self.main_code("(same (first (pair 1 2)) (second (pair 3 4)))"), (
            ("push", 1), ("push", 2), ("pair",), ("first",),
            ("push", 3), ("push", 4), ("pair",), ("second",), ("same",)))

    def test_names(self):
        self.assertEqual(self.main_code("(let x 1 (let y 2 (let x 3 (sum x y))))"), (
            ("push", 1), ("bind",), ("push", 2), ("bind",), ("push", 3), ("bind",),
            ("load", 0), ("load", 1), ("sum",), ("unbind",), ("unbind",), ("unbind",)))
        # Behind its let the name has its earlier binding; in the bound part, too.
        self.assertEqual(self.main_code("(let x 1 (sum (let x x x) x))"), (
            ("push", 1), ("bind",), ("load", 0), ("bind",), ("load", 0), ("unbind",),
            ("load", 0), ("sum",), ("unbind",)))

    def test_if(self):
        self.assertEqual(self.main_code("(if 1 2 (if 3 4 5))"), (
            ("push", 1), ("branch", 5), ("push", 2), ("jump", 10),
            ("push", 3), ("branch", 9), ("push", 4), ("jump", 10), ("push", 5)))

    def test_repeat(self):
        self.assertEqual(self.main_code("(let y 1 (repeat 4 x (sum y 1) (mod (sum y x) 2)))"), (
            ("push", 1), ("bind",), ("load", 0), ("push", 1), ("sum",), ("count", 4), ("bind",),
            ("load", 1), ("load", 0), ("sum",), ("mod", 2), ("unbind",), ("again", 7),
            ("unbind",)))

    def test_deeds(self):
        self.assertEqual(self.main_code("(pair (look s) (pair (get c) (ask o 1)))"), (
            ("look", 1), ("get", 2), ("ask", 4, 1), ("pair",), ("pair",)))
        self.assertEqual(self.main_code("(pair (put c 1) (note n (choose 0)))"), (
            ("push", 1), ("put", 2), ("choose", 0), ("note", 5), ("pair",)))
        self.assertEqual(self.main_code("(sum (draw 0 2 5) (fail f 1))"), (
            ("draw", 0, 2, 5), ("fail", 3, 1), ("sum",)))

    def test_try(self):
        book = Book("none", [("cell", "c", 2), ("fail", "f", 2)])
        program = read_program("main = (sum 5 (try f 1 (fail f 1) (let x 2 x)))")
        self.assertEqual(compiled(book, program), (
            ("jump", 1), ("push", 5), ("try", 2, 1, 5), ("fail", 2, 1), ("untry", 9),
            ("push", 2), ("bind",), ("load", 0), ("unbind",), ("sum",), ("done",)))

    def test_functions(self):
        self.assertEqual(code_of(
            "fun f (x 2) (y 3) = (let z x (pair y z))", "fun g = (call f 1 2)",
            "main = (first (call g))"), (
            ("jump", 12), ("load", 1), ("bind",), ("load", 1), ("load", 0), ("pair",),
            ("unbind",), ("return", 2), ("push", 1), ("push", 2), ("call", 1, 2), ("return", 0),
            ("call", 8, 0), ("first",), ("done",)))

    def test_many_programs(self):
        for book, program in programs(25):
            before = repr(program)
            code = compiled(book, program)
            self.assertEqual(code, program_code(book, program))
            self.assertIsInstance(code, tuple)
            self.assertEqual({type(row) for row in code}, {tuple})
            self.assertEqual(repr(program), before)


if __name__ == "__main__":
    unittest.main()
