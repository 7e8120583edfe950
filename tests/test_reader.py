import unittest

from besideandthrough.errors import TextError
from besideandthrough.reader import read_expression, read_program
from besideandthrough.writer import write_expression, write_program
from tests.helpers import fault, joined_tokens, line_changes, text_changes, token_changes
from tests.oracles import expression_fault, program_fault, spacing_fault, split_line

ALL = [
    ("0", ("num", 0)),
    ("999", ("num", 999)),
    ("x", ("var", "x")),
    ("abcdef", ("var", "abcdef")),
    ("let", ("var", "let")),
    ("(pair 1 x)", ("pair", ("num", 1), ("var", "x"))),
    ("(first x)", ("first", ("var", "x"))),
    ("(second x)", ("second", ("var", "x"))),
    ("(sum x 2)", ("sum", ("var", "x"), ("num", 2))),
    ("(mod x 2)", ("mod", ("var", "x"), 2)),
    ("(same x 2)", ("same", ("var", "x"), ("num", 2))),
    ("(let x 1 x)", ("let", "x", ("num", 1), ("var", "x"))),
    ("(let let 1 let)", ("let", "let", ("num", 1), ("var", "let"))),
    ("(if x 1 0)", ("if", ("var", "x"), ("num", 1), ("num", 0))),
    ("(repeat 3 x 1 x)", ("repeat", 3, "x", ("num", 1), ("var", "x"))),
    ("(try f 0 1 2)", ("try", "f", 0, ("num", 1), ("num", 2))),
    ("(call f)", ("call", "f", ())),
    ("(call main 1)", ("call", "main", (("num", 1),))),
    ("(call f 1 x 3 4)", ("call", "f", (("num", 1), ("var", "x"), ("num", 3), ("num", 4)))),
    ("(get c)", ("get", "c")),
    ("(put c 1)", ("put", "c", ("num", 1))),
    ("(look s)", ("look", "s")),
    ("(note n x)", ("note", "n", ("var", "x"))),
    ("(choose 0)", ("choose", 0)),
    ("(draw 0 1 2)", ("draw", 0, 1, 2)),
    ("(fail f 1)", ("fail", "f", 1)),
    ("(ask o 0)", ("ask", "o", 0)),
    ("(put c (call f 1 x))", ("put", "c", ("call", "f", (("num", 1), ("var", "x"))))),
]

PROGRAM = """fun f (x 2) (y (2 (3 1))) = (sum x (second y))
fun g = (repeat 2 x (call f 1) (if x (let y x y) (draw 0 1 2)))
fun abcdef (x 0) (f 999) (main 3) = (try f 0 (pair (put c x) f) (ask o 1))
main = (call abcdef 1 (mod (same x 1) 2) (fail f 0))"""


def nested(many):
    """The text of an expression with this many parentheses open within each other."""
    return "(first " * many + "x" + ")" * many


class Expressions(unittest.TestCase):
    def test_each_word(self):
        for text, expression in ALL:
            with self.subTest(text):
                self.assertEqual(read_expression(text), expression)

    def test_faults(self):
        for text, token in (
            ("", 1),
            (")", 1),
            ("()", 2),
            ("(", 2),
            ("00", 1),
            ("1000", 1),
            ("abcdefg", 1),
            ("X", 1),
            (":", 1),
            ("1 2", 2),
            ("x )", 2),
            ("(num 1)", 2),
            ("(var x)", 2),
            ("(odd 1)", 2),
            ("(1)", 2),
            ("((get c))", 2),
            ("(pair", 3),
            ("(pair)", 3),
            ("(pair 1)", 4),
            ("(pair 1 2", 5),
            ("(pair 1 2 3)", 5),
            ("(mod 1 x)", 4),
            ("(mod 1 1000)", 4),
            ("(mod 1 (first 2))", 4),
            ("(let 1 2 3)", 3),
            ("(let abcdefg 2 3)", 3),
            ("(let (x) 2 3)", 3),
            ("(repeat x x 1 2)", 3),
            ("(repeat 2 2 1 2)", 4),
            ("(try 0 f 1 2)", 3),
            ("(try f f 1 2)", 4),
            ("(call)", 3),
            ("(call 1)", 3),
            ("(call f", 4),
            ("(call f 1", 5),
            ("(call f = 1)", 4),
            ("(get 0)", 3),
            ("(get c 0)", 4),
            ("(put c)", 4),
            ("(choose x)", 3),
            ("(choose 01)", 3),
            ("(draw 0 1)", 5),
            ("(draw 0 1 2 3)", 6),
            ("(fail f)", 4),
            ("(ask o (num 0))", 4),
            ("x\n", 1),
            ("x\ny", 1),
            ("(get\nc)", 2),
            ("x ", 2),
            ("( get c)", 2),
        ):
            with self.subTest(text):
                with self.assertRaises(TextError) as caught:
                    read_expression(text)
                self.assertEqual((caught.exception.line, caught.exception.token), (1, token))

    def test_24_and_25_open_parentheses(self):
        text = nested(24)
        self.assertEqual(write_expression(read_expression(text)), text)
        self.assertEqual(fault(read_expression, nested(25)), (1, 49))
        self.assertEqual(fault(read_expression, nested(24).replace("x", "(")), (1, 49))
        self.assertEqual(fault(read_expression, nested(24).replace("x", "x x")), (1, 50))
        for text in ("(pair " * 24 + "x y" + ") x" * 23 + ")", "(call f " * 24 + "1" + ")" * 24):
            self.assertIsNone(fault(read_expression, text))
        text = "(call f " * 24 + "1 (get c)" + ")" * 24
        self.assertEqual(fault(read_expression, text), (1, 3 * 24 + 2))
        # Parentheses that have been closed do not count.
        many = "(call f" + " (call f (get c))" * 30 + ")"
        self.assertEqual(write_expression(read_expression(many)), many)

    def test_changed_texts(self):
        others = ["(", ")", "0", "1", "x", "let", "num", "call", "01", "1000", "abcdefg", "="]
        for text, _ in ALL:
            for tokens in token_changes(split_line(text), others):
                self.check(joined_tokens(tokens))
            for changed in text_changes(text):
                self.check(changed)

    def check(self, text):
        token = spacing_fault(text) or expression_fault(split_line(text))
        self.assertEqual(fault(read_expression, text), (1, token) if token else None, text)
        if not token:
            self.assertEqual(write_expression(read_expression(text)), text)


class Programs(unittest.TestCase):
    def test_the_example_of_point_25(self):
        text = "fun f (x 2) (y (2 3)) = (sum x (second y))\nmain = (call f 0 (pair 1 2))"
        self.assertEqual(read_program(text), (
            (("f", (("x", 2), ("y", (2, 3))),
              ("sum", ("var", "x"), ("second", ("var", "y")))),),
            ("call", "f", (("num", 0), ("pair", ("num", 1), ("num", 2))))))

    def test_programs(self):
        self.assertEqual(read_program("main = 0"), ((), ("num", 0)))
        self.assertEqual(read_program("fun f = 1\nmain = f"),
                         ((("f", (), ("num", 1)),), ("var", "f")))
        self.assertEqual(read_program("fun main (main 0) = main\nmain = main"),
                         ((("main", (("main", 0),), ("var", "main")),), ("var", "main")))
        functions, _ = read_program(PROGRAM)
        self.assertEqual([function[0] for function in functions], ["f", "g", "abcdef"])
        self.assertEqual(functions[2][1], (("x", 0), ("f", 999), ("main", 3)))
        self.assertEqual(write_program(read_program(PROGRAM)), PROGRAM)

    def test_faults(self):
        for text, line, token in (
            ("", 1, 1),
            ("x", 1, 1),
            ("(main = 0)", 1, 1),
            ("main", 1, 2),
            ("main 0", 1, 2),
            ("main (x 2) = 0", 1, 2),
            ("main =", 1, 3),
            ("main = =", 1, 3),
            ("main = 0 0", 1, 4),
            ("main = (pair 1)", 1, 6),
            ("fun", 1, 2),
            ("fun 1 = 0", 1, 2),
            ("fun abcdefg = 0", 1, 2),
            ("fun f", 1, 3),
            ("fun f 0", 1, 3),
            ("fun f =", 1, 4),
            ("fun f x = 0", 1, 3),
            ("fun f ()", 1, 4),
            ("fun f (1 2) = 0", 1, 4),
            ("fun f (x) = 0", 1, 5),
            ("fun f (x y) = 0", 1, 5),
            ("fun f (x 01) = 0", 1, 5),
            ("fun f (x 1000) = 0", 1, 5),
            ("fun f (x 2 3) = 0", 1, 6),
            ("fun f (x ()) = 0", 1, 6),
            ("fun f (x (2)) = 0", 1, 7),
            ("fun f (x (2 3) = 0", 1, 9),
            ("fun f (x 2", 1, 6),
            ("fun f (x 2) 0", 1, 7),
            ("fun f (x 2) (x 3) = 0", 1, 8),
            ("fun f (x 2) (y 3) (x 3) = 0", 1, 12),
            ("fun f = 0 0", 1, 5),
            ("fun f = 0", 2, 1),
            ("fun f = 0\n", 2, 1),
            ("fun f = 0\nfun f = 0", 2, 2),
            ("fun f = 0\nfun g (f 2) = 0\nfun g = 0", 3, 2),
            ("fun f = 0\nfun g = 0", 3, 1),
            ("main = 0\n", 2, 1),
            ("main = 0\nmain = 0", 2, 1),
            ("main = 0\nfun f = 0", 2, 1),
            ("main = 0\n(()", 2, 1),
            ("main = 0\na  b", 2, 2),
            ("main = 0\n\n ", 2, 1),
            ("main = 0 \n", 1, 4),
            ("main = a b \n", 1, 5),
            ("fun  f", 1, 2),
            ("main = 0\n  ", 2, 1),
        ):
            with self.subTest(text):
                self.assertEqual(fault(read_program, text), (line, token))

    def test_the_example_of_point_26(self):
        self.assertEqual(fault(read_program, "fun f = 1"), (2, 1))

    def test_four_and_five_functions(self):
        lines = [f"fun {name} = 0" for name in "abcde"]
        functions, _ = read_program("\n".join(lines[:4] + ["main = 0"]))
        self.assertEqual(len(functions), 4)
        self.assertEqual(fault(read_program, "\n".join(lines + ["main = 0"])), (5, 1))
        self.assertEqual(fault(read_program, "\n".join(lines[:4])), (5, 1))
        self.assertEqual(fault(read_program, "\n".join(lines[:4] + ["fun"])), (5, 1))
        self.assertEqual(fault(read_program, "\n".join(lines[:4] + ["fun e  "])), (5, 3))

    def test_three_and_four_parameters(self):
        line = "fun f (x 2) (y 2) (z 2)"
        self.assertIsNone(fault(read_program, line + " = 0\nmain = 0"))
        self.assertEqual(fault(read_program, line + " (a 2) = 0\nmain = 0"), (1, 15))
        self.assertEqual(fault(read_program, line + " 0"), (1, 15))

    def test_numbers_of_three_and_four_digits(self):
        for text, token in (("main = {}", 3), ("main = (mod 1 {})", 6), ("main = (choose {})", 5),
                            ("fun f (x {}) = 0\nmain = 0", 5)):
            self.assertIsNone(fault(read_program, text.format(999)))
            self.assertEqual(fault(read_program, text.format(1000)), (1, token))
            self.assertEqual(fault(read_program, text.format("099")), (1, token))

    def test_kinds_of_parameters(self):
        def of_kind(kind):
            return fault(read_program, f"fun f (x {kind}) = 0\nmain = 0")

        for kind in ("0", "1", "999", "(1 2)", "((((1 1) 1) 1) 1)", "(1 (1 (1 (1 1))))"):
            self.assertIsNone(of_kind(kind), kind)
        self.assertEqual(of_kind("(0 1)"), (1, 6))
        self.assertEqual(of_kind("(1 0)"), (1, 7))
        self.assertEqual(of_kind("((1 0) 1)"), (1, 8))
        self.assertEqual(of_kind("(((((1 1) 1) 1) 1) 1)"), (1, 9))
        self.assertEqual(of_kind("(1 (1 (1 (1 (1 1)))))"), (1, 13))
        text = "fun f (x ((((2 3) 4) 5) 6)) = 0\nmain = 0"
        self.assertEqual(read_program(text)[0][0][1], (("x", ((((2, 3), 4), 5), 6)),))

    def test_parentheses_of_parameters_do_not_count(self):
        text = f"fun f (x ((((2 3) 4) 5) 6)) = {nested(24)}\nmain = {nested(24)}"
        self.assertEqual(write_program(read_program(text)), text)
        self.assertEqual(fault(read_program, "main = " + nested(25)), (1, 51))

    def test_changed_texts(self):
        texts = list(text_changes(PROGRAM)) + list(line_changes(PROGRAM))
        lines = PROGRAM.split("\n")
        others = ["(", ")", "0", "1", "f", "x", "let", "num", "=", "01", "1000", "abcdefg",
                  "fun", "main"]
        for at, line in enumerate(lines):
            for tokens in token_changes(split_line(line), others):
                texts.append("\n".join(lines[:at] + [joined_tokens(tokens)] + lines[at + 1:]))
        good = 0
        for text in texts:
            expected = program_fault(text)
            self.assertEqual(fault(read_program, text), expected, text)
            if expected is None:
                good += 1
                self.assertEqual(write_program(read_program(text)), text)
        self.assertTrue(good)


if __name__ == "__main__":
    unittest.main()
