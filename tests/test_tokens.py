import itertools
import unittest

from besideandthrough.errors import TextError
from besideandthrough.tokens import is_name, number_in, tokens_of
from tests.helpers import fault, joined_tokens
from tests.oracles import keeps_form, spacing_fault, split_line


class Tokens(unittest.TestCase):
    def test_lines_in_their_form(self):
        for line, tokens in (
            ("", []),
            ("a", ["a"]),
            ("ab c", ["ab", "c"]),
            ("(a b)", ["(", "a", "b", ")"]),
            ("((a))", ["(", "(", "a", ")", ")"]),
            ("() ()", ["(", ")", "(", ")"]),
            ("a (b) c)", ["a", "(", "b", ")", "c", ")"]),
            ("put 1 0 : 2", ["put", "1", "0", ":", "2"]),
            ("-~!=", ["-~!="]),
        ):
            with self.subTest(line):
                self.assertEqual(tokens_of(line, 1), tokens)

    def test_lines_that_break_their_form(self):
        for line, token in (
            ("a  b", 2),
            ("a(", 2),
            (" ", 1),
            (" a", 1),
            ("a ", 2),
            ("( a)", 2),
            ("(a )", 3),
            ("(a)b", 4),
            ("(a)(b)", 4),
            (")(", 2),
            ("a b ", 3),
            ("( ", 2),
        ):
            with self.subTest(line):
                with self.assertRaises(TextError) as caught:
                    tokens_of(line, 7)
                self.assertEqual((caught.exception.line, caught.exception.token), (7, token))

    def test_a_newline_is_part_of_a_word(self):
        self.assertEqual(tokens_of("a\nb \n", 1), ["a\nb", "\n"])
        self.assertEqual(fault(tokens_of, "(\n(", 2), (2, 3))

    def test_all_short_lines(self):
        for many in range(7):
            for signs in itertools.product("a ()\n", repeat=many):
                line = "".join(signs)
                if keeps_form(line):
                    self.assertEqual(tokens_of(line, 4), split_line(line))
                else:
                    self.assertEqual(fault(tokens_of, line, 4), (4, spacing_fault(line)), line)

    def test_a_space_at_each_place(self):
        line = "(let x (put c 1) (f a)) b"
        tokens = tokens_of(line, 1)
        self.assertEqual(joined_tokens(tokens), line)
        for at in range(len(line) + 1):
            spaced = line[:at] + " " + line[at:]
            expected = spacing_fault(spaced)
            if expected:
                self.assertEqual(fault(tokens_of, spaced, 1), (1, expected), spaced)
            else:
                self.assertEqual(len(tokens_of(spaced, 1)), len(tokens) + 1)

    def test_a_long_line(self):
        self.assertEqual(len(tokens_of("a " * 20000 + "a", 1)), 20001)


class Numbers(unittest.TestCase):
    def test_numbers(self):
        for number in (0, 1, 9, 10, 99, 100, 999):
            self.assertEqual(number_in(str(number)), number)

    def test_what_is_no_number(self):
        for token in ("", "00", "01", "007", "1000", "0000", "-1", "+1", "1.", "a", "1a", "a1",
                      "(", ")", ":", "1\n", " 1", "1 ", "1_0", "\u0661", "\u00b2"):
            with self.subTest(token):
                self.assertEqual(number_in(token), -1)


class Names(unittest.TestCase):
    def test_names(self):
        for token in ("a", "z", "ab", "abcdef", "zzzzzz", "let", "main"):
            self.assertIs(is_name(token), True)

    def test_what_is_no_name(self):
        for token in ("", "abcdefg", "A", "aB", "Ab", "a1", "1", "a_", "a-b", "(", ")", "a\n",
                      "a b", " a", "\u00e9"):
            with self.subTest(token):
                self.assertIs(is_name(token), False)


if __name__ == "__main__":
    unittest.main()
