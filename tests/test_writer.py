import unittest

from besideandthrough.reader import read_program
from besideandthrough.writer import write_expression, write_kind, write_program
from tests.test_reader import ALL, PROGRAM


class Writing(unittest.TestCase):
    def test_expressions(self):
        for text, expression in ALL:
            with self.subTest(text):
                self.assertEqual(write_expression(expression), text)

    def test_the_example_of_point_22(self):
        expression = ("put", "c", ("call", "f", (("num", 1), ("var", "x"))))
        self.assertEqual(write_expression(expression), "(put c (call f 1 x))")

    def test_kinds(self):
        for kind, text in ((0, "0"), (60, "60"), ((2, 3), "(2 3)"),
                           (((1, 2), (3, (4, 5))), "((1 2) (3 (4 5)))")):
            self.assertEqual(write_kind(kind), text)

    def test_programs(self):
        program = (
            (("f", (("x", 2), ("y", (2, 3))), ("sum", ("var", "x"), ("second", ("var", "y")))),
             ("g", (), ("call", "f", (("num", 1),)))),
            ("call", "g", ()))
        self.assertEqual(write_program(program), (
            "fun f (x 2) (y (2 3)) = (sum x (second y))\n"
            "fun g = (call f 1)\n"
            "main = (call g)"))
        self.assertEqual(write_program(((), ("num", 0))), "main = 0")

    def test_reading_what_was_written(self):
        program = read_program(PROGRAM)
        self.assertEqual(read_program(write_program(program)), program)


if __name__ == "__main__":
    unittest.main()
