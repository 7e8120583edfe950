import itertools
import re
import unittest
from math import gcd

from besideandthrough.books import Book
from besideandthrough.errors import TextError, WorldError
from besideandthrough.worlds import World, read_world, write_world
from tests.helpers import (
    KERNELS, LEFT, SIGNS, fault, joined_tokens, line_changes, text_changes, token_changes)
from tests.oracles import spacing_fault, split_line, value_fault

EXAMPLE = Book("none", [("outside", "o", (2,)), ("cell", "c", 2)])
EXAMPLE_TEXT = "world 2\ndone 0 1 : 3 -1 : (0 1)\nask 1 0 : 0 5 : 0 1/2 3 -1"
EXAMPLE_ROWS = (
    (("done", "(0 1)", (0, 1)), (3, -1)),
    (("ask", 1, 0, (), ((((0, 1), (1, 2)),), (((3, 1), (-1, 1)),))), (0, 5)))

LAYERS = [("cell", "c", 2), ("note", "n", LEFT), ("setting", "s", 2), ("outside", "o", (1, 2)),
          ("fail", "f", 2)]
BOOK = Book("choose", LAYERS)
TEXT = """world 2
done 1 2 0 0 0 : 3 -1 : (0 1)
fail 5 1 0 1 0 0 : -20 7
ask 4 0 1 2 0 : 0 5 : 0 1/2 -3 -7/3 1 1 0 0
done 0 1 0 0 0 : 0 0 : 7"""


class Signed:
    """Integers by the words of point [105]."""

    def __init__(self, most):
        self.pattern = r"-?[1-9][0-9]{0,%d}|0" % (most - 1)

    def integer(self, token):
        return int(token) if re.fullmatch(self.pattern, token) else None

    def fraction(self, token):
        num, mark, den = token.partition("/")
        if self.integer(num) is None:
            return None
        if not mark:
            return int(num), 1
        if self.integer(den) is None or int(den) < 2 or gcd(int(num), int(den)) != 1:
            return None
        return int(num), int(den)


SIGNED = Signed(4000)


def entries_beneath(book, layer):
    """For each layer beneath a layer, how many entries can be kept of it."""
    many = []
    for word, _, extent in book.layers[:layer - 1]:
        if word == "cell":
            many.append(extent)
        else:
            many.append(len(extent) if word == "note" else 1)
    return many


def wanted_tokens(book, scales, tokens):
    """For each token of a row that is no text of a value, a test of the token."""
    def upto(many):
        return lambda token: re.fullmatch("0|[1-9][0-9]*", token) and int(token) < many

    def colon(token):
        return token == ":"

    def integer(token):
        return SIGNED.integer(token) is not None

    def fraction(token):
        return SIGNED.fraction(token) is not None

    word = tokens[0] if tokens else ""
    wanted = [lambda token: token in ("done", "fail", "ask")]
    sort = {"fail": "fail", "ask": "outside"}.get(word)
    layer = book.size + 1
    many = 0
    if sort:
        layers = [at + 1 for at, row in enumerate(book.layers) if row[0] == sort]
        wanted.append(lambda token: token in map(str, layers))
        if len(tokens) > 1 and tokens[1] in map(str, layers):
            layer = int(tokens[1])
            extent = book.layers[layer - 1][2]
            wanted.append(upto(extent if sort == "fail" else len(extent)))
            if word == "ask" and len(tokens) > 2 and wanted[2](tokens[2]):
                many = extent[int(tokens[2])]
    wanted += [upto(entries) for entries in entries_beneath(book, layer)]
    wanted += [colon] + [integer] * scales
    if word != "fail":
        wanted.append(colon)
    for row in book.layers[:layer - 1]:
        many *= row[2] if row[0] in ("cell", "setting") else 1
    return wanted + [fraction] * (many * scales)


def row_fault(book, scales, tokens):
    """The first token that cannot stand in the line of a row, or 0."""
    wanted = wanted_tokens(book, scales, tokens)
    for at, good in enumerate(wanted):
        if at >= len(tokens) or not good(tokens[at]):
            return at + 1
    rest = tokens[len(wanted):]
    if tokens[0] == "done":
        at = value_fault(rest)
        return at + len(wanted) if at else 0
    return len(wanted) + 1 if rest else 0


def world_fault(book, text):
    """The line and token at which the text of a world breaks its form, or None."""
    first, *lines = text.split("\n")
    tokens = split_line(first)
    at = spacing_fault(first)
    if not at and tokens[:1] != ["world"]:
        at = 1
    if not at and (len(tokens) < 2 or not re.fullmatch("[1-9][0-9]{0,3999}", tokens[1])):
        at = 2
    if not at and len(tokens) > 2:
        at = 3
    if at:
        return 1, at
    for index, line in enumerate(lines):
        at = spacing_fault(line) or row_fault(book, int(tokens[1]), split_line(line))
        if at:
            return index + 2, at
    return None


# Layers, and how many entries can be kept of each.
KEPT = ((("cell", "c", 2), 2), (("cell", "c", 3), 3), (("note", "n", LEFT), 3),
        (("note", "n", SIGNS), 2), (("setting", "s", 2), 1), (("setting", "s", 3), 1), (("fail", "g", 3), 1),
        (("outside", "p", (2, 3)), 1))


def kept_book(layer):
    """A book in which a layer is beneath one of failings and an outside one."""
    return Book("none", [layer, ("fail", "f", 1), ("outside", "o", (1,))])


def kept_key(book, word, entry):
    """A key with a word that keeps an entry of the first layer of such a book."""
    if word == "done":
        return word, "0", (entry, 0, 0)
    if word == "fail":
        return word, 2, 0, (entry,)
    sort, _, extent = book.layers[0]
    states = extent if sort in ("cell", "setting") else 1
    return word, 3, 0, (entry, 0), ((((0, 1),),) * states,)


class Worlds(unittest.TestCase):
    def fault(self, book, scales, *rows):
        """The row of the WorldError that creating a world raises, or None."""
        try:
            World(book, scales, rows)
        except WorldError as error:
            return error.row
        return None

    def test_attributes(self):
        rows = list(EXAMPLE_ROWS)
        world = World(EXAMPLE, 2, rows)
        rows.pop()
        self.assertIs(world.book, EXAMPLE)
        self.assertEqual(world.scales, 2)
        self.assertEqual(world.rows, EXAMPLE_ROWS)
        self.assertEqual(list(world), list(EXAMPLE_ROWS))
        self.assertEqual(World(EXAMPLE, 3).rows, ())

    def test_the_numbers_of_a_key(self):
        world = World(EXAMPLE, 2, EXAMPLE_ROWS)
        for key, numbers in EXAMPLE_ROWS:
            self.assertEqual(world.row_of(key), numbers)
        self.assertEqual(world.row_of(("done", "(0 1)", (0, 0))), (0, 0))
        self.assertEqual(World(EXAMPLE, 3).row_of(EXAMPLE_ROWS[0][0]), (0, 0, 0))

    def test_scales(self):
        for scales in (0, -1, -7):
            self.assertEqual(self.fault(EXAMPLE, scales), 0)
            self.assertEqual(self.fault(EXAMPLE, scales, ((), ())), 0)
        self.assertIsNone(self.fault(EXAMPLE, 1))

    def test_good_keys(self):
        worth = ((1, 2), (-3, 1))
        for kernel in KERNELS:
            book = Book(kernel, LAYERS)
            for key in (("done", "0", (0, 0, 0, 0, 0)), ("done", "(1 (2 3))", (1, 2, 0, 0, 0)),
                        ("fail", 5, 0, (1, 2, 0, 0)), ("fail", 5, 1, (0, 0, 0, 0)),
                        ("ask", 4, 0, (1, 2, 0), ((worth,) * 4,)),
                        ("ask", 4, 1, (0, 0, 0), ((worth,) * 4, (worth,) * 4))):
                self.assertIsNone(self.fault(book, 2, (key, (0, -5))))
        self.assertIsNone(self.fault(Book("none", ()), 1, (("done", "0", ()), (1,))))

    def test_bad_keys(self):
        worth = ((1, 2), (-3, 1))
        part = (worth,) * 4
        good = (("done", "5", (0, 0, 0, 0, 0)), (1, 2))
        for key in (
            ("odd", "0", (0, 0, 0, 0, 0)), ("", "0", (0, 0, 0, 0, 0)), ("done",), ("done", "0"),
            ("done", "0", (0, 0, 0, 0, 0), ()), ("done", "x", (0, 0, 0, 0, 0)),
            ("done", "", (0, 0, 0, 0, 0)), ("done", "1000", (0, 0, 0, 0, 0)),
            ("done", "(((((0 0) 0) 0) 0) 0)", (0, 0, 0, 0, 0)),
            ("done", "0", (0, 0, 0, 0)), ("done", "0", (0, 0, 0, 0, 0, 0)), ("done", "0", ()),
            ("done", "0", (2, 0, 0, 0, 0)), ("done", "0", (-1, 0, 0, 0, 0)),
            ("done", "0", (0, 3, 0, 0, 0)), ("done", "0", (0, 0, 1, 0, 0)),
            ("done", "0", (0, 0, 2, 0, 0)), ("done", "0", (0, 0, -1, 0, 0)),
            ("done", "0", (0, 0, 0, 1, 0)), ("done", "0", (0, 0, 0, 0, 1)),
            ("fail", 5, 0), ("fail", 5, 0, (0, 0, 0, 0), ()), ("fail", 4, 0, (0, 0, 0)),
            ("fail", 0, 0, ()), ("fail", 6, 0, (0, 0, 0, 0, 0)), ("fail", -1, 0, (0, 0, 0, 0)),
            ("fail", 5, 2, (0, 0, 0, 0)), ("fail", 5, -1, (0, 0, 0, 0)),
            ("fail", 5, 0, (0, 0, 0)), ("fail", 5, 0, (0, 0, 0, 0, 0)), ("fail", 5, 0, (0, 0, 0, 1)),
            ("fail", 5, 0, (2, 0, 0, 0)), ("fail", 5, 0, (0, 3, 0, 0)), ("fail", 5, 0, (0, 0, 1, 0)),
            ("ask", 4, 0, (2, 0, 0), (part,)), ("ask", 4, 0, (0, 3, 0), (part,)),
            ("ask", 4, 0, (0, 0, 1), (part,)),
            ("ask", 4, 0, (0, 0, 0)), ("ask", 4, 0, (0, 0, 0), (part,), ()),
            ("ask", 5, 0, (0, 0, 0, 0), (part,)), ("ask", 4, 2, (0, 0, 0), (part,)),
            ("ask", 4, -1, (0, 0, 0), (part,)), ("ask", 4, 0, (0, 0), (part,)),
            ("ask", 4, 0, (0, 0, 0), ()), ("ask", 4, 0, (0, 0, 0), (part, part)),
            ("ask", 4, 1, (0, 0, 0), (part,)), ("ask", 4, 0, (0, 0, 0), (part[1:],)),
            ("ask", 4, 0, (0, 0, 0), (part + part[1:],)), ("ask", 4, 0, (0, 0, 0), ((),)),
            ("ask", 4, 0, (0, 0, 0), (part[1:] + (worth[1:],),)),
            ("ask", 4, 0, (0, 0, 0), (part[1:] + ((*worth, (0, 1)),),)),
            ("ask", 4, 0, (0, 0, 0), (part[1:] + (((2, 4), (0, 1)),),)),
            ("ask", 4, 0, (0, 0, 0), (part[1:] + (((1, 0), (0, 1)),),)),
            ("ask", 4, 0, (0, 0, 0), (part[1:] + (((1, -2), (0, 1)),),)),
            ("ask", 4, 0, (0, 0, 0), (part[1:] + (((0, 2), (0, 1)),),)),
        ):
            with self.subTest(key):
                self.assertEqual(self.fault(BOOK, 2, (key, (0, 0))), 1)
                self.assertEqual(self.fault(BOOK, 2, good, (key, (0, 0)), (key, (0, 0))), 2)

    def test_what_can_be_kept(self):
        for layer, many in KEPT:
            book = kept_book(layer)
            for entry in range(-2, 8):
                for word in ("done", "fail", "ask"):
                    with self.subTest(layer=layer, entry=entry, word=word):
                        row = (kept_key(book, word, entry), (1,))
                        self.assertEqual(self.fault(book, 1, row), None if 0 <= entry < many else 1)

    def test_the_number_of_integers(self):
        key = ("done", "0", (0, 0, 0, 0, 0))
        for numbers in ((), (1,), (1, 2, 3)):
            self.assertEqual(self.fault(BOOK, 2, (key, numbers)), 1)

    def test_equal_keys(self):
        one, other = EXAMPLE_ROWS
        self.assertEqual(self.fault(EXAMPLE, 2, one, one), 2)
        self.assertEqual(self.fault(EXAMPLE, 2, one, other, one), 3)
        self.assertEqual(self.fault(EXAMPLE, 2, one, other, (other[0], (7, 7)), one), 3)

    def test_the_first_row_that_is_wrong(self):
        one, other = EXAMPLE_ROWS
        self.assertEqual(self.fault(EXAMPLE, 2, one, (other[0], (1,)), one), 2)
        self.assertEqual(self.fault(EXAMPLE, 2, one, one, (other[0], (1,))), 2)
        # The worths within a key have as many scales as the world.
        self.assertEqual(self.fault(EXAMPLE, 1, (one[0], (1,)), (other[0], (1,))), 2)


class Texts(unittest.TestCase):
    def test_the_example_of_point_105(self):
        world = World(EXAMPLE, 2, EXAMPLE_ROWS)
        self.assertEqual(write_world(world), EXAMPLE_TEXT)
        read = read_world(EXAMPLE, EXAMPLE_TEXT)
        self.assertEqual((read.scales, read.rows), (2, EXAMPLE_ROWS))
        self.assertIs(read.book, EXAMPLE)

    def test_a_text(self):
        world = read_world(BOOK, TEXT)
        self.assertEqual(world.rows, (
            (("done", "(0 1)", (1, 2, 0, 0, 0)), (3, -1)),
            (("fail", 5, 1, (0, 1, 0, 0)), (-20, 7)),
            (("ask", 4, 0, (1, 2, 0), ((((0, 1), (1, 2)), ((-3, 1), (-7, 3)), ((1, 1), (1, 1)),
                                        ((0, 1), (0, 1))),)), (0, 5)),
            (("done", "7", (0, 1, 0, 0, 0)), (0, 0))))
        self.assertEqual(write_world(world), TEXT)

    def test_worlds_without_rows_and_layers(self):
        for kernel in KERNELS:
            book = Book(kernel, ())
            for text in ("world 1", "world 17", "world 1\ndone : 5 : 0",
                         "world 3\ndone : 1 2 3 : 1\ndone : 1 2 3 : (1 1)"):
                self.assertEqual(write_world(read_world(book, text)), text)

    def test_many_scales_without_rows(self):
        scales = "9" * 4000
        self.assertEqual(write_world(read_world(BOOK, "world " + scales)), "world " + scales)
        self.assertEqual(fault(read_world, Book("none", ()), f"world {scales}\ndone : 1 2"), (2, 5))
        self.assertEqual(fault(read_world, BOOK, "world 9" + scales), (1, 2))

    def test_all_keys_of_a_book(self):
        book = Book("draw", [("cell", "c", 2), ("outside", "o", (1, 2)), ("fail", "f", 2)])
        fractions = ((0, 1), (-1, 2))
        keys = [("done", "0", (value, 0, 0)) for value in range(2)]
        keys += [("fail", 3, kind, (value, 0)) for kind in range(2) for value in range(2)]
        for deed, many in ((0, 2), (1, 4)):
            for row in itertools.product(fractions, repeat=many):
                children = tuple(((row[at],), (row[at + 1],)) for at in range(0, many, 2))
                keys.append(("ask", 2, deed, (1,), children))
        rows = tuple((key, (at - 9,)) for at, key in enumerate(keys))
        world = World(book, 1, rows)
        again = read_world(book, write_world(world))
        self.assertEqual((again.scales, again.rows), (1, rows))

    def test_faults(self):
        for text, line, token in (
            ("", 1, 1), ("World 1", 1, 1), ("world", 1, 2), ("world 0", 1, 2), ("world -1", 1, 2),
            ("world 01", 1, 2), ("world 1/2", 1, 2), ("world 1 1", 1, 3), ("world  1", 1, 2),
            ("world 1\n", 2, 1), ("world 1\nodd", 2, 1), ("world 1\ndone", 2, 2),
            ("world 1\ndone 2", 2, 2), ("world 1\ndone 0 3", 2, 3), ("world 1\ndone 0 0 0 1", 2, 5),
            ("world 1\ndone 0 0 1 0 0 : 1 : 0", 2, 4), ("world 1\nfail 5 1 0 0 1 0 : 1", 2, 6),
            ("world 1\nask 4 0 0 0 1 : 1 : 1 2 3 4", 2, 6), ("world 1\nask 4 0 0 0 2", 2, 6),
            ("world 1\ndone 0 0 0 0 0 : 1 : 0\nfail 5 0 1 2 1 0 : 1", 3, 6),
            ("world 1\ndone 0 0 0 0 : 1 : 0", 2, 6), ("world 1\ndone 0 0 0 0 0 1 : 0", 2, 7),
            ("world 1\ndone 0 0 0 0 0 : : 0", 2, 8), ("world 1\ndone 0 0 0 0 0 : 1 2 : 0", 2, 9),
            ("world 2\ndone 0 0 0 0 0 : 1 : 0", 2, 9), ("world 1\ndone 0 0 0 0 0 : 1", 2, 9),
            ("world 1\ndone 0 0 0 0 0 : 1 :", 2, 10), ("world 1\ndone 0 0 0 0 0 : -0 : 0", 2, 8),
            ("world 1\ndone 0 0 0 0 0 : +1 : 0", 2, 8), ("world 1\ndone 0 0 0 0 0 : 01 : 0", 2, 8),
            ("world 1\ndone 0 0 0 0 0 : - : 0", 2, 8), ("world 1\ndone 0 0 0 0 0 : --1 : 0", 2, 8),
            ("world 1\ndone 0 0 0 0 0 : 1/2 : 0", 2, 8),
            ("world 1\ndone 0 0 0 0 0 : 1 : (0 1) 2", 2, 14),
            ("world 1\ndone 0 0 0 0 0 : 1 : (0 1", 2, 13),
            ("world 1\ndone 0 0 0 0 0 : 1 : x", 2, 10), ("world 1\ndone 0 0 0 -0 0 : 1 : 0", 2, 5),
            ("world 1\nfail", 2, 2), ("world 1\nfail 4 0", 2, 2), ("world 1\nfail 0 0", 2, 2),
            ("world 1\nfail 6 0", 2, 2), ("world 1\nfail 05 0", 2, 2), ("world 1\nfail 5 2", 2, 3),
            ("world 1\nfail 5 0 0 0 0 0 : 1 :", 2, 10), ("world 1\nfail 5 0 0 0 0 0 0 : 1", 2, 8),
            ("world 1\nask 5 0", 2, 2), ("world 1\nask 4 2", 2, 3), ("world 1\nask 4 -0", 2, 3),
            ("world 1\nask 4 0 0 0 0 : 1 : 1 2 3", 2, 13),
            ("world 1\nask 4 0 0 0 0 : 1 : 1 2 3 4 5", 2, 14),
            ("world 1\nask 4 0 0 0 0 : 1 : 2/4 2 3 4", 2, 10),
            ("world 1\nask 4 0 0 0 0 : 1 : 1 2/1 3 4", 2, 11),
            ("world 1\nask 4 0 0 0 0 : 1 : 1 2 3/0 4", 2, 12),
            ("world 1\nask 4 0 0 0 0 : 1 : 1 2 3 4/-3", 2, 13),
            ("world 1\nask 4 0 0 0 0 : 1 : 1 2 3 0/3", 2, 13),
            ("world 1\nask 4 0 0 0 0 : 1 : 1 2 3 -0/3", 2, 13),
            ("world 1\nask 4 0 0 0 0 : 1 : 1 2 3 1/2/3", 2, 13),
            ("world 1\nask 4 0 0 0 0 : 1 : 1 2 3 1/", 2, 13),
            ("world 1\nask 4 0 0 0 0 : 1 : 1 2 3 /2", 2, 13),
            ("world 1\nask 4 0 0 0 0 : 1 : 1 2 3 1/02", 2, 13),
            ("world 1\ndone 0 0 0 0 0 : 1 : 0\nworld 1", 3, 1),
        ):
            with self.subTest(text):
                self.assertEqual(fault(read_world, BOOK, text), (line, token))
                self.assertEqual(world_fault(BOOK, text), (line, token))

    def test_what_can_be_kept(self):
        for layer, many in KEPT:
            book = kept_book(layer)
            for entry in range(8):
                for word, place in (("done", 2), ("fail", 4), ("ask", 4)):
                    world = World(book, 1, [(kept_key(book, word, 0), (1,))])
                    first, line = write_world(world).split("\n")
                    tokens = line.split(" ")
                    tokens[place - 1] = str(entry)
                    text = f"{first}\n{' '.join(tokens)}"
                    with self.subTest(layer=layer, text=text):
                        if entry < many:
                            rows = ((kept_key(book, word, entry), (1,)),)
                            self.assertEqual(read_world(book, text).rows, rows)
                        else:
                            self.assertEqual(fault(read_world, book, text), (2, place))

    def test_layers_that_a_book_does_not_have(self):
        book = Book("none", [("cell", "c", 2)])
        for word in ("fail", "ask"):
            self.assertEqual(fault(read_world, book, f"world 1\n{word}"), (2, 2))
            self.assertEqual(fault(read_world, book, f"world 1\n{word} 1"), (2, 2))

    def test_4000_and_4001_digits(self):
        most, more = "9" * 4000, "1" + "0" * 4000
        book = Book("none", [("outside", "o", (2,))])
        text = "world 1\nask 1 0 : {} : {} {}"
        for parts in ((most, "0", "1"), ("-" + most, most, "-" + most),
                      ("0", most + "/2", "1/" + most), ("0", "-1" + "0" * 3999 + "/" + most, "0")):
            world = read_world(book, text.format(*parts))
            self.assertEqual(write_world(world), text.format(*parts))
        for parts, token in (((more, "0", "1"), 5), (("-" + more, "0", "1"), 5),
                             (("0", more, "1"), 7), (("0", "-" + more, "1"), 7),
                             (("0", "0", more + "/3"), 8), (("0", "0", "1/" + more), 8)):
            self.assertEqual(fault(read_world, book, text.format(*parts)), (2, token))

    def test_equal_keys(self):
        for lines, row in ((["done 0 1 : 1 : 0", "done 0 1 : 2 : 0"], 2),
                           (["done 0 1 : 1 : 0", "done 0 1 : 1 : 1", "done 0 1 : 1 : 1"], 3),
                           (["ask 1 0 : 0 : 0 1/2", "done 0 0 : 1 : 0", "ask 1 0 : 1 : 0 1/2"], 3)):
            with self.assertRaises(WorldError) as caught:
                read_world(EXAMPLE, "\n".join(["world 1", *lines]))
            self.assertEqual(caught.exception.row, row)
        # All lines are read before the world is created.
        text = "world 1\ndone 0 1 : 1 : 0\ndone 0 1 : 2 : 0\ndone"
        self.assertEqual(fault(read_world, EXAMPLE, text), (4, 2))

    def test_changed_texts(self):
        lines = TEXT.split("\n")
        texts = list(text_changes(TEXT)) + list(line_changes(TEXT))
        others = ["world", "done", "fail", "ask", ":", "0", "1", "2", "4", "5", "-1", "-0", "01",
                  "1/2", "2/4", "(", ")"]
        for at, line in enumerate(lines):
            for tokens in token_changes(split_line(line), others):
                texts.append("\n".join(lines[:at] + [joined_tokens(tokens)] + lines[at + 1:]))
        outcomes = {"fault": 0, "world": 0, "read": 0}
        for text in texts:
            outcomes[self.check(text)] += 1
        self.assertTrue(all(outcomes.values()), outcomes)

    def check(self, text):
        expected = world_fault(BOOK, text)
        try:
            world = read_world(BOOK, text)
        except TextError as error:
            self.assertEqual((error.line, error.token), expected, text)
            return "fault"
        except WorldError:
            self.assertIsNone(expected, text)
            rows = [line.split(" : ") for line in text.split("\n")[1:]]
            keys = [(row[0], *row[2:]) for row in rows]
            self.assertLess(len(set(keys)), len(keys))
            return "world"
        self.assertIsNone(expected, text)
        self.assertEqual(write_world(world), text)
        return "read"


if __name__ == "__main__":
    unittest.main()
