import itertools
import unittest

from besideandthrough.books import Book
from besideandthrough.errors import KindError
from besideandthrough.kinds import check, fits, has, joined, kind_of, weight
from besideandthrough.reader import read_expression, read_program
from tests.helpers import KERNELS, LEFT, wide_book

SMALL = [0, 1, 2, 3, (1, 1), (1, 2), (2, 1), (2, 3), ((1, 2), 1), ((2, 2), 1), (1, (1, 1)),
         ((1, 1), (2, 1))]
NAMES = {"zero": 0, "one": 1, "bit": 2, "six": 60, "big": 999, "both": (2, 3),
         "four": ((((1, 1), 1), 1), 1), "three": (((2, 2), 2), 2)}
FUNCTIONS = {"f": ((2, 3), 5), "g": ((), (2, 2)), "h": ((0, (2, 3)), 7), "none": ((2,), 0)}


def values_of(kind):
    """All values of a kind, by the words of point [23]."""
    if isinstance(kind, tuple):
        return list(itertools.product(values_of(kind[0]), values_of(kind[1])))
    return list(range(kind))


def kind_in(text, book=None, names=None, functions=None):
    """Returns the kind of the expression with this text, or None if it has none."""
    try:
        return kind_of(book or wide_book(), FUNCTIONS if functions is None else functions,
                       read_expression(text), NAMES if names is None else names)
    except KindError as error:
        assert error.where == "expression"
        return None


class Kinds(unittest.TestCase):
    def test_values_of_kinds(self):
        pool = [0, 1, 2, 59, 60] + [value for kind in SMALL for value in values_of(kind)]
        for kind in SMALL:
            for value in pool:
                self.assertIs(has(kind, value), value in values_of(kind), (kind, value))

    def test_fitting(self):
        for kind in SMALL:
            for other in SMALL:
                told = all(value in values_of(other) for value in values_of(kind))
                self.assertIs(fits(kind, other), told, (kind, other))
        self.assertIs(fits(0, 0), True)
        self.assertIs(fits((999, 1), (998, 1)), False)

    def test_joining(self):
        for one in SMALL:
            for other in SMALL:
                wider = [kind for kind in SMALL + [(2, 2), (3, 3), ((2, 2), (1, 1)), ((2, 2), 2)]
                         if fits(one, kind) and fits(other, kind)]
                found = joined(one, other)
                self.assertEqual(found, joined(other, one))
                if found is None:
                    self.assertEqual(wider, [])
                else:
                    self.assertTrue(fits(one, found) and fits(other, found))
                    self.assertTrue(all(fits(found, kind) for kind in wider))

    def test_joined_kinds(self):
        for one, other, kind in (
            (0, 0, 0), (0, 5, 5), (5, 0, 5), (0, (2, 3), (2, 3)), ((2, 3), 0, (2, 3)),
            (2, 7, 7), (7, 2, 7), ((2, 5), (3, 4), (3, 5)), (1, (1, 1), None), ((1, 1), 1, None),
            (((1, 2), 3), (1, 3), None), ((3, (1, 2)), (3, 1), None),
            (((1, 2), 3), ((2, 1), 4), ((2, 2), 4)), ((3, (1, 9)), (4, (2, 1)), (4, (2, 9))),
        ):
            self.assertEqual(joined(one, other), kind)


class Expressions(unittest.TestCase):
    def check(self, told, book=None):
        for text, kind in told.items():
            with self.subTest(text):
                self.assertEqual(kind_in(text, book), kind)


class PlainExpressions(Expressions):
    def test_leaves(self):
        self.check({"0": 1, "1": 2, "59": 60, "60": None, "999": None, "bit": 2, "both": (2, 3),
                    "zero": 0, "big": 999, "x": None, "f": None})

    def test_pairs(self):
        self.check({
            "(pair 1 2)": (2, 3), "(pair zero 1)": 0, "(pair 1 zero)": 0, "(pair zero zero)": 0,
            "(pair both bit)": ((2, 3), 2), "(pair three 1)": ((((2, 2), 2), 2), 2),
            "(pair 1 three)": (2, (((2, 2), 2), 2)), "(pair four 1)": None, "(pair 1 four)": None,
            "(pair four zero)": 0, "(pair zero four)": 0, "(pair x 1)": None, "(pair zero x)": None,
        })

    def test_halves(self):
        self.check({
            "(first both)": 2, "(second both)": 3, "(first zero)": 0, "(second zero)": 0,
            "(first bit)": None, "(second bit)": None, "(first three)": ((2, 2), 2),
            "(second three)": 2, "(first x)": None, "(second x)": None,
        })

    def test_sums(self):
        self.check({
            "(sum 1 2)": 4, "(sum 0 0)": 1, "(sum six 0)": 60, "(sum six 1)": None,
            "(sum 30 29)": 60, "(sum 30 30)": None, "(sum 29 31)": None, "(sum big zero)": 0,
            "(sum zero bit)": 0, "(sum zero zero)": 0, "(sum both 1)": None, "(sum 1 both)": None,
            "(sum both zero)": None, "(sum zero both)": None, "(sum x zero)": None,
            "(sum zero x)": None, "(sum big 0)": None,
        })

    def test_remainders(self):
        self.check({
            "(mod 5 0)": None, "(mod 5 1)": 1, "(mod 5 5)": 5, "(mod 5 6)": 6, "(mod 5 7)": 6,
            "(mod 5 60)": 6, "(mod 5 61)": None, "(mod big 60)": 60, "(mod big 61)": None,
            "(mod zero 3)": 0, "(mod zero 0)": None, "(mod zero 61)": None, "(mod both 2)": None,
            "(mod x 2)": None,
        })

    def test_sameness(self):
        self.check({
            "(same 1 5)": 2, "(same both both)": 2, "(same zero both)": 0, "(same bit zero)": 0,
            "(same zero zero)": 0, "(same 1 both)": None, "(same both 1)": None,
            "(same both (pair both 1))": None, "(same x 1)": None, "(same zero x)": None,
        })

    def test_let(self):
        self.check({
            "(let x 1 x)": 2, "(let x 1 (pair x x))": (2, 2), "(let bit both bit)": (2, 3),
            "(let x zero 5)": 0, "(let x zero x)": 0, "(let x zero (pair x 1))": 0,
            "(let x 1 zero)": 0, "(let x zero y)": None, "(let x zero (first bit))": None,
            "(let x x 1)": None, "(let x y 1)": None, "(pair (let x 1 x) x)": None,
            "(let x (let y 2 y) (sum x x))": 5, "(let x 1 (let x both (first x)))": 2,
        })

    def test_if(self):
        self.check({
            "(if bit 3 5)": 6, "(if bit 5 3)": 6, "(if bit zero 3)": 4, "(if bit 3 zero)": 4,
            "(if bit zero zero)": 0, "(if zero 1 2)": 0, "(if zero 1 both)": None,
            "(if zero both 1)": None, "(if both 1 1)": None, "(if bit 1 both)": None,
            "(if x 1 1)": None, "(if 0 x 1)": None, "(if 1 1 x)": None, "(if 0 60 1)": None,
            "(if bit both (pair 4 0))": (5, 3),
        })

    def test_repeat(self):
        self.check({
            "(repeat 0 x 1 x)": None, "(repeat 1 x 1 x)": 2, "(repeat 4 x 1 x)": 2,
            "(repeat 5 x 1 x)": None, "(repeat 1 x 1 (sum x 2))": 4,
            "(repeat 4 x 1 (sum x 2))": 10, "(repeat 4 x 1 5)": 6, "(repeat 3 x 5 1)": 6,
            "(repeat 3 x zero 5)": 0, "(repeat 3 x zero y)": None, "(repeat 1 x 5 zero)": 6,
            "(repeat 3 x zero (pair 1 2))": 0, "(repeat 2 x zero (sum x 1))": 0,
            "(repeat 1 x 1 both)": None, "(repeat 1 x both 1)": None, "(repeat 1 x y 1)": None,
            "(repeat 1 x zero (pair 1 1))": 0, "(repeat 2 x zero (if x 1 (pair 1 1)))": None,
            "(repeat 1 x 1 (pair x x))": None, "(repeat 4 x both (pair (sum (first x) 1) 0))": (6, 3),
            "(repeat 4 bit 15 (sum bit 11))": 60, "(repeat 4 bit 16 (sum bit 11))": None,
            "(repeat 3 x zero (sum six x))": 0, "(pair (repeat 1 x 1 x) x)": None,
        })
        # Joined each time: with x of kind 0 first, the second time with that of the body.
        self.check({"(repeat 1 x zero (first (pair (pair 1 2) x)))": 0,
                    "(repeat 2 x zero (if bit 1 (first x)))": None,
                    "(repeat 1 x zero (if bit 1 (first x)))": 0})

    def test_call(self):
        self.check({
            "(call f 1 2)": 5, "(call f 0 0)": 5, "(call f 2 0)": None, "(call f 1 3)": None,
            "(call f 1)": None, "(call f)": None, "(call f 1 2 0)": None, "(call g)": (2, 2),
            "(call g 0)": None, "(call h 0 both)": None, "(call h zero both)": 0,
            "(call f zero 1)": 0, "(call f 1 zero)": 0, "(call f zero 3)": None,
            "(call h zero 1)": None, "(call f both 1)": None, "(call none 1)": 0,
            "(call k)": None, "(call x 1)": None, "(call f x 1)": None, "(call f zero x)": None,
            "(call h zero (pair 0 1))": 0, "(call h zero (pair 2 0))": None,
        })

    def test_a_name_may_be_that_of_a_function_and_of_a_variable(self):
        self.assertEqual(kind_in("(call f f)", names={"f": 3}, functions={"f": ((3,), 4)}), 4)


class DeedExpressions(Expressions):
    def test_get_and_look(self):
        self.check({"(get c)": 2, "(look s)": 3, "(get s)": None, "(look c)": None,
                    "(get n)": None, "(get o)": None, "(get f)": None, "(get x)": None,
                    "(look x)": None, "(look n)": None})
        self.check({"(get c)": 3, "(look s)": 2}, Book("none", [("cell", "c", 3),
                                                                ("setting", "s", 2)]))

    def test_put_and_note(self):
        self.check({
            "(put c 0)": 1, "(put c 1)": 1, "(put c 2)": None, "(put c zero)": 0,
            "(put c both)": None, "(put s 0)": None, "(put n 0)": None, "(put x 0)": None,
            "(put c x)": None, "(note n 0)": 1, "(note n 2)": 1, "(note n 3)": None,
            "(note n zero)": 0, "(note n both)": None, "(note c 0)": None, "(note x 0)": None,
            "(note n x)": None, "(put x zero)": None, "(note x zero)": None,
        })

    def test_pieces(self):
        pieces = {"none": (0, 0), "choose": (1, 0), "draw": (0, 1), "spread": (1, 1),
                  "twochoose": (2, 0), "twodraw": (0, 2), "mixed": (1, 1)}
        for kernel in KERNELS:
            choosing, drawing = pieces[kernel]
            for piece in range(4):
                self.check({f"(choose {piece})": 2 if piece < choosing else None,
                            f"(draw {piece} 1 2)": 2 if piece < drawing else None},
                           Book(kernel, ()))

    def test_shares(self):
        good = {(1, 2), (1, 3), (2, 3), (1, 4), (3, 4), (1, 5), (2, 5), (3, 5), (4, 5), (1, 6),
                (5, 6)}
        for kernel in ("draw", "spread", "twodraw", "mixed"):
            for num in range(9):
                for den in range(9):
                    self.check({f"(draw 0 {num} {den})": 2 if (num, den) in good else None},
                               Book(kernel, ()))

    def test_fail_and_ask(self):
        self.check({
            "(fail f 0)": 0, "(fail f 1)": 0, "(fail f 2)": None, "(fail c 0)": None,
            "(fail x 0)": None, "(fail o 0)": None, "(ask o 0)": 3, "(ask o 1)": 1,
            "(ask o 2)": None, "(ask f 0)": None, "(ask c 0)": None, "(ask x 0)": None,
        })

    def test_try(self):
        self.check({
            "(try f 0 1 5)": 6, "(try f 1 5 1)": 6, "(try f 2 1 1)": None, "(try c 0 1 1)": None,
            "(try o 0 1 1)": None, "(try x 0 1 1)": None, "(try f 0 1 both)": None,
            "(try f 0 zero 4)": 5, "(try f 0 (fail f 0) (fail f 0))": 0, "(try f 0 x 1)": None,
            "(try f 0 1 x)": None, "(try f 0 both zero)": (2, 3),
        })

    def test_no_outside_layer_above_a_try(self):
        fail, outside, cell = ("fail", "f", 1), ("outside", "o", (2,)), ("cell", "c", 2)
        for layers, kind in (
            ([fail], 2), ([outside, fail], 2), ([fail, cell], 2), ([outside, fail, cell], 2),
            ([fail, outside], None), ([fail, cell, outside], None), ([fail, outside, cell], None),
            ([("outside", "p", (1,)), fail, outside], None),
            ([("fail", "g", 3), outside, fail, ("note", "n", LEFT)], 2),
        ):
            self.check({"(try f 0 1 1)": kind}, Book("none", layers))

    def test_names_of_no_layer_and_of_other_layers(self):
        texts = ("(get x)", "(look x)", "(put x 0)", "(note x 0)", "(fail x 0)", "(ask x 0)",
                 "(try x 0 1 1)")
        others = ("(get f)", "(look c)", "(put f 0)", "(note c 0)", "(fail c 0)", "(ask f 0)",
                  "(try c 0 1 1)")
        for layers in ([], [("cell", "c", 2), ("fail", "f", 1)], [("fail", "f", 1),
                                                                  ("cell", "c", 2)]):
            self.check({text: None for text in texts + others}, Book("none", layers))

    def test_the_error(self):
        for text in ("x", "(first 1)", "(get x)", "(pair 60 x)"):
            with self.assertRaises(KindError) as caught:
                kind_of(wide_book(), {}, read_expression(text), {})
            self.assertEqual(caught.exception.where, "expression")

    def test_what_was_handed_in_stays(self):
        names, functions = dict(NAMES), dict(FUNCTIONS)
        kind_in("(let x 1 (repeat 2 bit x (call f 1 2)))", names=names, functions=functions)
        self.assertEqual((names, functions), (NAMES, FUNCTIONS))


class Weights(unittest.TestCase):
    def test_weights(self):
        for text, heavy in (
            ("0", 1), ("x", 1), ("(get c)", 1), ("(look s)", 1), ("(choose 0)", 1),
            ("(draw 0 1 2)", 1), ("(fail f 0)", 1), ("(ask o 0)", 1), ("(pair 1 2)", 3),
            ("(first x)", 2), ("(second x)", 2), ("(sum x 1)", 3), ("(mod x 60)", 2),
            ("(same x x)", 3), ("(let x 1 (pair x x))", 5), ("(if 0 1 (first x))", 5),
            ("(repeat 3 x (first x) (pair x x))", 1 + 2 + 3 * 3), ("(repeat 0 x 1 2)", 2),
            ("(repeat 4 x 1 (repeat 4 y 1 2))", 1 + 1 + 4 * 6), ("(try f 0 1 (first x))", 4),
            ("(put c (first x))", 3), ("(note n 0)", 2), ("(call f)", 8), ("(call g)", 1),
            ("(call f 1 (first x))", 11), ("(call h (call f))", 1 + 8 + 100),
        ):
            with self.subTest(text):
                self.assertEqual(weight({"f": 7, "h": 100}, read_expression(text)), heavy)

    def test_what_was_handed_in_stays(self):
        functions = {"f": 7}
        weight(functions, read_expression("(call g (call f))"))
        self.assertEqual(functions, {"f": 7})


def heavy(many):
    """The text of an expression of the kind 1 with this weight."""
    if many == 1:
        return "0"
    if many == 2:
        return "(mod 0 60)"
    if many < 10:
        return f"(sum {heavy(many - 2)} 0)"
    rest = (many - 2) % 4
    return "(mod " * rest + f"(repeat 4 x 0 {heavy((many - 2) // 4)})" + " 60)" * rest


class Checking(unittest.TestCase):
    def where(self, text, book=None):
        try:
            return check(book or wide_book(), read_program(text))
        except KindError as error:
            return error.where

    def test_kinds_of_programs(self):
        for text, kind in (
            ("main = 5", 6),
            ("main = (fail f 0)", 0),
            ("main = (pair (get c) (look s))", (2, 3)),
            ("fun f (x 2) (y (2 3)) = (sum x (second y))\nmain = (call f 1 (pair 1 2))", 4),
            ("fun f = 3\nfun g = (call f)\nfun h = (call g)\nmain = (sum (call h) (call f))", 7),
            ("fun main (main 4) = main\nmain = (call main 3)", 4),
            ("fun f (x 0) = x\nmain = 1", 2),
            ("fun f (x 999) = (mod x 7)\nmain = (call f 9)", 7),
        ):
            with self.subTest(text):
                self.assertEqual(self.where(text), kind)

    def test_which_error_comes_first(self):
        for text, name in (
            ("main = x", "main"),
            ("fun f = x\nmain = 0", "f"),
            ("fun f = x\nfun g = x\nmain = x", "f"),
            ("fun f = 0\nfun g = x\nmain = x", "g"),
            ("fun f = 0\nfun g = 0\nmain = x", "main"),
            ("fun f (x 2) = (call f x)\nmain = 0", "f"),
            ("fun f = (call g)\nfun g = 0\nmain = 0", "f"),
            ("fun f (x 2) = x\nfun g = x\nmain = 0", "g"),
            ("fun f (x 2) = x\nmain = x", "main"),
            ("fun f (x 2) = x\nmain = (call f 2)", "main"),
            ("fun f (x 2) = x\nmain = (call f)", "main"),
            ("fun f (x 0) = x\nmain = (call f 0)", "main"),
            ("fun main = x\nmain = 0", "main"),
        ):
            with self.subTest(text):
                self.assertEqual(self.where(text), name)

    def test_weights_of_400_and_401(self):
        for many in list(range(1, 50)) + [399, 400, 401]:
            self.assertEqual(weight({}, read_expression(heavy(many))), many)
        self.assertEqual(self.where("main = " + heavy(400)), 1)
        self.assertEqual(self.where("main = " + heavy(401)), "main")
        self.assertEqual(self.where(f"fun f = {heavy(400)}\nmain = 0"), 1)
        self.assertEqual(self.where(f"fun f = {heavy(401)}\nmain = 0"), "f")
        self.assertEqual(self.where(f"fun f = 0\nfun g = {heavy(401)}\nmain = x"), "g")

    def test_weights_of_calls(self):
        self.assertEqual(self.where(f"fun f = {heavy(399)}\nmain = (call f)"), 1)
        self.assertEqual(self.where(f"fun f = {heavy(400)}\nmain = (call f)"), "main")
        text = f"fun f = {heavy(99)}\nfun g = (call f)\nmain = (repeat 4 x 0 "
        self.assertEqual(self.where(text + "(call f))"), "main")
        self.assertEqual(self.where(text + "(get c))"), 2)
        text = f"fun f = {heavy(97)}\nfun g = (call f)\nmain = (repeat 4 x 0 (call g))"
        self.assertEqual(self.where(text), 1)
        text = f"fun f = {heavy(98)}\nfun g = (call f)\nmain = (repeat 4 x 0 (call g))"
        self.assertEqual(self.where(text), "main")

    def test_great_weights_are_refused_at_once(self):
        text = "(repeat 4 x 0 " * 24 + "x" + ")" * 24
        self.assertEqual(self.where("main = " + text), "main")
        self.assertEqual(self.where(f"main = (repeat 0 x 0 {text[14:-1]})"), "main")
        self.assertEqual(self.where("main = " + text.replace("4", "999")), "main")

    def test_what_was_handed_in_stays(self):
        program = read_program("fun f (x 2) = x\nmain = (call f 1)")
        before = repr(program)
        check(wide_book(), program)
        self.assertEqual(repr(program), before)


if __name__ == "__main__":
    unittest.main()
