import unittest

from besideandthrough.books import Book, like_books, read_book, write_book
from besideandthrough.errors import BookError
from tests.helpers import (
    KERNELS, LEFT, SIGNS, fault, joined_tokens, line_changes, text_changes, token_changes, wide_book,
)
from tests.oracles import is_name, is_number, spacing_fault, split_line

WIDE_TEXT = """kernel spread
setting s 3
cell c 2
note n 012 111 222
outside o 3 1
fail f 2"""


def line_fault(tokens, number):
    """The token that point [10] names, or 0."""
    first = tokens[0] if tokens else ""
    second = tokens[1] if len(tokens) > 1 else ""
    if number == 1:
        cases = [(1, first != "kernel"), (2, second not in KERNELS), (3, len(tokens) > 2)]
    else:
        digits = [token.isdigit() if first == "note" else is_number(token) for token in tokens[2:]]
        cases = [
            (1, first not in ("cell", "setting", "note", "fail", "outside")),
            (2, not is_name(second)),
            (digits.index(False) + 3 if False in digits else 0, False in digits),
            (3, len(tokens) < 3),
            (4, first in ("cell", "setting", "fail") and len(tokens) > 3),
        ]
    return next((token for token, applies in cases if applies), 0)


def text_fault(text):
    for at, line in enumerate(text.split("\n")):
        token = spacing_fault(line) or line_fault(split_line(line), at + 1)
        if token:
            return at + 1, token
    return None


class Writing(unittest.TestCase):
    def test_texts(self):
        self.assertEqual(write_book(wide_book()), WIDE_TEXT)
        self.assertEqual(write_book(Book("none", ())), "kernel none")

    def test_the_example_of_point_9(self):
        book = Book("none", [("note", "n", SIGNS)])
        self.assertEqual(write_book(book), "kernel none\nnote n 01 10")
        read = read_book("kernel none\nnote n 01 10")
        self.assertEqual(read.layers, (("note", "n", ((0, 1), (1, 0))),))


class Reading(unittest.TestCase):
    def test_texts(self):
        book = read_book(WIDE_TEXT)
        self.assertTrue(like_books(book, wide_book()))
        for kernel in KERNELS:
            book = read_book("kernel " + kernel)
            self.assertEqual((book.kernel, book.layers), (kernel, ()))

    def test_line_1(self):
        for text, token in (
            ("", 1),
            ("kernels none", 1),
            ("cell c 2", 1),
            ("none", 1),
            ("kernel", 2),
            ("kernel odd", 2),
            ("kernel kernel", 2),
            ("kernel odd odd", 2),
            ("kernel none none", 3),
            ("kernel none ()", 3),
            ("kernel ()", 2),
        ):
            self.assertEqual(fault(read_book, text), (1, token), text)

    def test_later_lines(self):
        for line, token in (
            ("", 1),
            ("kernel none", 1),
            ("ret 0", 1),
            ("(cell c 2)", 1),
            ("cell", 2),
            ("cell 2", 2),
            ("cell abcdefg 2", 2),
            ("cell C 2", 2),
            ("note 01", 2),
            ("cell c", 3),
            ("note n", 3),
            ("outside o", 3),
            ("fail f", 3),
            ("setting s", 3),
            ("cell c x", 3),
            ("cell c 02", 3),
            ("cell c 1000", 3),
            ("setting s -1", 3),
            ("fail f ()", 3),
            ("outside o 1 x", 4),
            ("outside o 1 1 1 01", 6),
            ("outside o 1 1000", 4),
            ("note n 01 1x", 4),
            ("note n x 01", 3),
            ("note n 01 (10)", 4),
            ("cell c 2 2", 4),
            ("setting s 2 2 2", 4),
            ("fail f 1 1", 4),
            ("cell c 2 x", 4),
            ("cell c 2 2 x", 5),
            ("cell c x 2", 3),
        ):
            text = "kernel none\nfail a 1\n" + line
            self.assertEqual(fault(read_book, text), (3, token), line)

    def test_the_first_line_counts(self):
        self.assertEqual(fault(read_book, "kernel none\ncell\nkernel  none"), (2, 2))
        self.assertEqual(fault(read_book, "kernel none \ncell"), (1, 3))
        self.assertEqual(fault(read_book, "kernel none\ncell C x "), (2, 4))

    def test_no_newline_at_the_end(self):
        self.assertEqual(fault(read_book, WIDE_TEXT + "\n"), (7, 1))
        self.assertEqual(fault(read_book, "\n" + WIDE_TEXT), (1, 1))

    def test_rows_of_any_length(self):
        for row in ("0", "00", "0123456789", "9" * 50):
            with self.assertRaises(BookError) as caught:
                read_book("kernel none\ncell c 2\nnote n " + row)
            self.assertEqual(caught.exception.layer, 2)

    def test_book_errors_come_last(self):
        for text, layer in (
            ("kernel none\ncell c 4", 1),
            ("kernel none\ncell c 999", 1),
            ("kernel none\ncell c 2\nfail c 1", 2),
            ("kernel none\nnote n 01 11 10", 1),
            ("kernel none\noutside o 1 1 1", 1),
            ("kernel none\noutside o 0", 1),
            ("kernel none\ncell a 3\ncell b 3\ncell c 2", 0),
            ("kernel none" + "\nfail a 1" * 6, 0),
        ):
            with self.assertRaises(BookError) as caught:
                read_book(text)
            self.assertEqual(caught.exception.layer, layer, text)
        self.assertEqual(fault(read_book, "kernel none\ncell c 4\ncell"), (3, 2))

    def test_changed_texts(self):
        lines = WIDE_TEXT.split("\n")
        texts = list(text_changes(WIDE_TEXT)) + list(line_changes(WIDE_TEXT))
        others = ["kernel", "none", "cell", "note", "2", "01", "x", "(", "1000"]
        for at, line in enumerate(lines):
            for tokens in token_changes(split_line(line), others):
                texts.append("\n".join(lines[:at] + [joined_tokens(tokens)] + lines[at + 1:]))
        for text in texts:
            self.check(text)

    def check(self, text):
        expected = text_fault(text)
        try:
            found = fault(read_book, text)
        except BookError:
            found = None
        else:
            if found is None:
                self.assertEqual(write_book(read_book(text)), text)
        self.assertEqual(found, expected, text)

    def test_reading_what_was_written(self):
        for layers in ([("note", "abcdef", LEFT)], [("outside", "o", (2,)), ("cell", "c", 3)]):
            for kernel in KERNELS:
                book = Book(kernel, layers)
                self.assertTrue(like_books(read_book(write_book(book)), book))


if __name__ == "__main__":
    unittest.main()
