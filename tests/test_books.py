import itertools
import unittest

from besideandthrough.books import Book, choices, draws, like_books
from besideandthrough.errors import BookError
from tests.helpers import KERNELS, LEFT, NOTE, SIGNS, WIDE, wide_book

ONE = (("cell", "c", 2),)


def layer_of_error(kernel, layers):
    """Returns the layer of the BookError, or None if the book is created."""
    try:
        Book(kernel, layers)
    except BookError as error:
        return error.layer
    return None


def cyclic(many):
    """The table of sums modulo a number."""
    return tuple(tuple((a + b) % many for b in range(many)) for a in range(many))


def is_monoid(table):
    """Tells by the words of point [7] whether a square table is that of a monoid."""
    many = range(len(table))
    return (
        all(table[0][a] == a == table[a][0] for a in many)
        and all(table[table[a][b]][c] == table[a][table[b][c]]
                for a in many for b in many for c in many)
    )


class Kernels(unittest.TestCase):
    def test_pieces(self):
        told = [(choices(kernel), draws(kernel)) for kernel in KERNELS]
        self.assertEqual(told, [(0, 0), (1, 0), (0, 1), (1, 1), (2, 0), (0, 2), (1, 1)])

    def test_each_kernel_makes_a_book(self):
        for kernel in KERNELS:
            self.assertEqual(Book(kernel, []).kernel, kernel)

    def test_other_words(self):
        for kernel in ("", "None", "chooses", "draw ", "kernel", "cell"):
            self.assertEqual(layer_of_error(kernel, []), 0)


class Layers(unittest.TestCase):
    def test_sizes(self):
        for word, good in (("cell", (2, 3)), ("setting", (2, 3)), ("fail", (1, 2, 3))):
            for size in range(-1, 6):
                told = layer_of_error("none", [(word, "c", size)])
                self.assertEqual(told, None if size in good else 1, (word, size))

    def test_outside(self):
        for arities in ((1,), (2,), (3,), (1, 1), (3, 3), (1, 3), (2, 1)):
            self.assertIsNone(layer_of_error("none", [("outside", "o", arities)]))
        for arities in ((), (0,), (4,), (-1,), (1, 0), (0, 1), (1, 4), (4, 1), (1, 1, 1)):
            self.assertEqual(layer_of_error("none", [("outside", "o", arities)]), 1, arities)

    def test_monoids(self):
        for table in (SIGNS, LEFT, ((0, 1), (1, 1)), *[cyclic(many) for many in range(2, 7)]):
            self.assertIsNone(layer_of_error("none", [("note", "n", table)]))

    def test_tables_of_a_wrong_size(self):
        for table in ((), ((0,),), cyclic(7), ((0, 1),), ((0, 1), (1,)), ((0, 1), (1, 0), (0, 0)),
                      ((), ()), ((0, 1), ()), ((0, 1, 2), (1, 0, 2)), ((0,), (1,)),
                      ((0, 1), (1, 0, 1))):
            self.assertEqual(layer_of_error("none", [("note", "n", table)]), 1, table)

    def test_members_of_a_table(self):
        for table in (((0, 1), (1, 2)), ((0, 1), (1, -1)), ((0, 1), (1, -2)), ((-2, 1), (1, 0))):
            self.assertEqual(layer_of_error("none", [("note", "n", table)]), 1, table)

    def test_units(self):
        for table in (((0, 0), (1, 0)), ((0, 1), (0, 0)), ((1, 1), (1, 1)), ((1, 0), (0, 1))):
            self.assertEqual(layer_of_error("none", [("note", "n", table)]), 1, table)

    def test_a_monoid_is_associative(self):
        # 1 1 = 2, 1 2 = 0 but 2 1 = 1: so (1 1) 1 is 1 and 1 (1 1) is 0.
        table = ((0, 1, 2), (1, 2, 0), (2, 1, 0))
        self.assertEqual(layer_of_error("none", [("note", "n", table)]), 1)

    def test_all_tables_of_three_members_with_a_unit(self):
        for a, b, c, d in itertools.product(range(3), repeat=4):
            table = ((0, 1, 2), (1, a, b), (2, c, d))
            told = layer_of_error("none", [("note", "n", table)])
            self.assertEqual(told, None if is_monoid(table) else 1, table)

    def test_words(self):
        for word in ("", "kernel", "cells", "Cell", "none", "ret"):
            self.assertEqual(layer_of_error("none", [(word, "c", 2)]), 1, word)

    def test_names(self):
        for name in ("c", "abcdef", "kernel", "cell"):
            self.assertIsNone(layer_of_error("none", [("cell", name, 2)]), name)
        for name in ("", "abcdefg", "C", "c1", "a b", "c\n", "("):
            for layer in (("cell", name, 2), ("note", name, SIGNS), ("outside", name, (1,)),
                          ("setting", name, 2), ("fail", name, 1)):
                self.assertEqual(layer_of_error("none", [layer]), 1, layer)

    def test_a_name_that_occurs_twice(self):
        layers = [("cell", "a", 2), ("fail", "b", 1), ("note", "a", SIGNS), ("fail", "b", 1)]
        self.assertEqual(layer_of_error("none", layers), 3)
        self.assertEqual(layer_of_error("none", layers[1:]), 3)

    def test_five_and_six_layers(self):
        layers = [("fail", name, 1) for name in "abcdef"]
        self.assertIsNone(layer_of_error("none", layers[:5]))
        self.assertEqual(layer_of_error("none", layers), 0)

    def test_the_product_of_the_sizes(self):
        twelve = [("cell", "a", 2), ("setting", "b", 2), ("cell", "c", 3)]
        self.assertIsNone(layer_of_error("none", twelve))
        self.assertIsNone(layer_of_error("none", twelve + [("fail", "f", 3), NOTE]))
        self.assertEqual(layer_of_error("none", twelve + [("setting", "d", 2)]), 0)
        sixteen = [("setting", name, 2) for name in "abcd"]
        self.assertEqual(layer_of_error("none", sixteen), 0)
        eighteen = [("cell", "a", 3), ("cell", "b", 3), ("setting", "c", 2)]
        self.assertEqual(layer_of_error("none", eighteen), 0)


class WhichErrorComesFirst(unittest.TestCase):
    def test_the_kernel_before_the_layers(self):
        self.assertEqual(layer_of_error("odd", [("cell", "c", 9)]), 0)

    def test_the_number_of_layers_before_the_layers(self):
        self.assertEqual(layer_of_error("none", [("odd", "c", 9)] * 6), 0)

    def test_the_layers_before_the_product(self):
        layers = [("cell", "a", 3), ("cell", "b", 3), ("cell", "c", 3), ("cell", "d", 4)]
        self.assertEqual(layer_of_error("none", layers), 4)
        self.assertEqual(layer_of_error("none", layers[:3] + [("cell", "a", 3)]), 4)

    def test_the_first_layer(self):
        layers = [("cell", "a", 2), ("cell", "a", 2), ("cell", "B", 7)]
        self.assertEqual(layer_of_error("none", layers), 2)
        self.assertEqual(layer_of_error("none", layers[:1] + layers[2:] + layers[1:2]), 2)


class Books(unittest.TestCase):
    def test_attributes(self):
        book = wide_book("mixed")
        self.assertEqual((book.kernel, book.layers, book.size), ("mixed", WIDE, 5))
        empty = Book("none", ())
        self.assertEqual((empty.kernel, empty.layers, empty.size), ("none", (), 0))

    def test_later_changes_of_the_list_have_no_effect(self):
        layers = list(WIDE)
        book = Book("none", layers)
        self.assertEqual(layers, list(WIDE))
        layers.pop()
        layers[0] = ("cell", "z", 2)
        self.assertEqual((book.layers, book.size, book.number_of("s")), (WIDE, 5, 1))

    def test_words_and_counts(self):
        book = wide_book()
        layers = range(1, 6)
        self.assertEqual([book.word_at(layer) for layer in layers],
                         ["setting", "cell", "note", "outside", "fail"])
        self.assertEqual([book.count_at(layer) for layer in layers], [3, 2, 3, 2, 2])

    def test_ways(self):
        book = Book("none", [("outside", "o", (3, 1)), ("outside", "p", (2,))])
        self.assertEqual([book.ways_at(1, 0), book.ways_at(1, 1), book.ways_at(2, 0)], [3, 1, 2])

    def test_products(self):
        book = Book("none", [("note", "n", LEFT), ("note", "m", SIGNS)])
        for a in range(3):
            for b in range(3):
                self.assertEqual(book.product(1, a, b), b if a == 0 else a)
        self.assertEqual([book.product(2, 1, 1), book.product(2, 0, 1)], [0, 1])

    def test_numbers_of_names(self):
        book = wide_book()
        self.assertEqual([book.number_of(name) for name in "scnof"], [1, 2, 3, 4, 5])
        self.assertEqual([book.number_of(name) for name in ("x", "", "cell", "sc")], [0] * 4)

    def test_like_books(self):
        self.assertIs(like_books(wide_book(), Book("spread", list(WIDE))), True)
        self.assertIs(like_books(wide_book(), wide_book("mixed")), False)
        self.assertIs(like_books(wide_book(), Book("spread", WIDE[:4])), False)
        self.assertIs(like_books(Book("none", ONE), Book("none", (("cell", "d", 2),))), False)


if __name__ == "__main__":
    unittest.main()
