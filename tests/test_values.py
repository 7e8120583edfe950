import itertools
import unittest

from besideandthrough.errors import TextError
from besideandthrough.values import is_value_text, read_value, value_text
from tests.helpers import fault, joined_tokens, text_changes, token_changes
from tests.oracles import spacing_fault, split_line, value_fault

DEEP = "((((0 1) 2) 3) 4)"
DEEPER = "(((((0 1) 2) 3) 4) 5)"


class Values(unittest.TestCase):
    def test_texts_of_values(self):
        for value, text in (
            (0, "0"),
            (7, "7"),
            (999, "999"),
            ((0, (1, 2)), "(0 (1 2))"),
            (((0, 1), 2), "((0 1) 2)"),
            (((((0, 1), 2), 3), 4), DEEP),
            ((1, (2, (3, (4, 5)))), "(1 (2 (3 (4 5))))"),
        ):
            with self.subTest(text):
                self.assertEqual(value_text(value), text)
                self.assertEqual(read_value(text), value)
                self.assertIs(is_value_text(text), True)

    def test_the_example_of_point_5(self):
        with self.assertRaises(TextError) as caught:
            read_value("(0 1) 2")
        self.assertEqual((caught.exception.line, caught.exception.token), (1, 5))

    def test_faults(self):
        for text, token in (
            ("", 1),
            ("a", 1),
            (")", 1),
            ("()", 2),
            ("(", 2),
            ("(0", 3),
            ("(0)", 3),
            ("(0 1", 4),
            ("(0 1 2)", 4),
            ("0 0", 2),
            ("00", 1),
            ("(0 01)", 3),
            ("1000", 1),
            ("(1 1000)", 3),
            ("-1", 1),
            ("0\n", 1),
            ("(0\n1)", 2),
            ("\n", 1),
            (" 0", 1),
            ("0 ", 2),
            ("(0 a) )", 5),
            (DEEPER, 5),
            ("((((0 (", 6),
            ("(0 (0 (0 (0 (0 0)))))", 9),
        ):
            with self.subTest(text):
                self.assertEqual(fault(read_value, text), (1, token))
                self.assertIs(is_value_text(text), False)

    def test_spacing_comes_first(self):
        self.assertEqual(fault(read_value, "a b  "), (1, 3))
        self.assertEqual(fault(read_value, "x (1 2 )"), (1, 5))

    def test_changed_texts(self):
        texts = [joined_tokens(tokens)
                 for tokens in token_changes(split_line(DEEP), ["(", ")", "0", "10", "a", "00"])]
        texts += list(text_changes(DEEP))
        texts += list(text_changes("(10 (2 3))"))
        for text in texts:
            token = spacing_fault(text) or value_fault(split_line(text))
            with self.subTest(text):
                self.assertEqual(fault(read_value, text), (1, token) if token else None)
                self.assertIs(is_value_text(text), not token)
                if not token:
                    self.assertEqual(value_text(read_value(text)), text)

    def test_all_short_texts(self):
        for many in range(6):
            for tokens in itertools.product(["(", ")", "1"], repeat=many):
                token = value_fault(list(tokens))
                text = joined_tokens(tokens)
                self.assertEqual(fault(read_value, text), (1, token) if token else None, text)


if __name__ == "__main__":
    unittest.main()
