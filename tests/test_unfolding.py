import unittest

from besideandthrough.books import Book, read_book
from besideandthrough.compiling import compiled
from besideandthrough.errors import TooLarge
from besideandthrough.kinds import weight
from besideandthrough.machine import Machine
from besideandthrough.plays import Play
from besideandthrough.reader import read_expression, read_program
from besideandthrough.running import evaluate, run
from besideandthrough.states import starts
from besideandthrough.unfolding import unfold, unfold_expression
from besideandthrough.webruns import run_web
from besideandthrough.webs import Web
from besideandthrough.webtexts import write_web
from tests.helpers import wide_book
from tests.programs import programs, scripts
from tests.trees import TooBig, Unfolder, node_for

EXAMPLE = "kernel none\nfail f 1\ncell c 2\nnote n 01 10"


def bodies(functions):
    return {name: (tuple(parameter for parameter, _ in parameters), body)
            for name, parameters, body in functions}


def size_of(book, expression, **limit):
    """The tree size of an expression without names and functions, or None if TooLarge."""
    web = Web(book)
    read = read_expression(expression)
    try:
        node = unfold_expression(web, {}, read, {}, **limit)
    except TooLarge:
        node = None
    # The whole program is unfolded in the same way.
    try:
        if unfold(web, ((), read), **limit) != node:
            raise AssertionError("the program has another node")
    except TooLarge:
        if node is not None:
            raise AssertionError("the program is too large") from None
    return None if node is None else web.size_of(node)


class Rules(unittest.TestCase):
    def text(self, expression, names=(), functions=()):
        web = Web(wide_book("spread"))
        node = unfold_expression(
            web, dict(functions), read_expression(expression), dict(names))
        return write_web(web, node)

    def test_without_deeds(self):
        self.assertEqual(self.text("59"), "ret 59")
        self.assertEqual(self.text("x", {"x": (1, 2)}), "ret (1 2)")
        self.assertEqual(self.text("(pair 1 (pair 2 3))"), "ret (1 (2 3))")
        self.assertEqual(self.text("(first (pair 1 2))"), "ret 1")
        self.assertEqual(self.text("(second (pair 1 2))"), "ret 2")
        self.assertEqual(self.text("(sum 2 3)"), "ret 5")
        self.assertEqual(self.text("(mod 7 4)"), "ret 3")
        self.assertEqual(self.text("(same 2 3)"), "ret 0")
        self.assertEqual(self.text("(same (pair 2 3) (pair 2 3))"), "ret 1")

    def test_deeds(self):
        self.assertEqual(self.text("(get c)"), "ret 0\nret 1\nget 2 : 0 1")
        self.assertEqual(self.text("(look s)"), "ret 0\nret 1\nret 2\nlook 1 : 0 1 2")
        self.assertEqual(self.text("(choose 0)"), "ret 0\nret 1\nchoose 0 : 0 1")
        self.assertEqual(self.text("(draw 0 2 5)"), "ret 0\nret 1\ndraw 0 2 5 : 0 1")
        self.assertEqual(self.text("(ask o 0)"), "ret 0\nret 1\nret 2\nask 4 0 : 0 1 2")
        self.assertEqual(self.text("(ask o 1)"), "ret 0\nask 4 1 : 0")
        self.assertEqual(self.text("(fail f 1)"), "fail 5 1")
        self.assertEqual(self.text("(put c 1)"), "ret 0\nput 2 1 : 0")
        self.assertEqual(self.text("(note n 2)"), "ret 0\nnote 3 2 : 0")

    def test_parts_one_behind_the_other(self):
        self.assertEqual(self.text("(put c (choose 0))"),
                         "ret 0\nput 2 0 : 0\nput 2 1 : 0\nchoose 0 : 1 2")
        self.assertEqual(self.text("(pair (choose 0) (get c))"), "\n".join([
            "ret (0 0)", "ret (0 1)", "get 2 : 0 1", "ret (1 0)", "ret (1 1)", "get 2 : 3 4",
            "choose 0 : 2 5"]))
        self.assertEqual(self.text("(sum (choose 0) (get c))"), "\n".join([
            "ret 0", "ret 1", "get 2 : 0 1", "ret 2", "get 2 : 1 3", "choose 0 : 2 4"]))
        # The deed of the first part is done although it does not matter.
        self.assertEqual(self.text("(mod (choose 0) 1)"), "ret 0\nchoose 0 : 0 0")

    def test_let(self):
        self.assertEqual(self.text("(let x (choose 0) (pair x y))", {"x": 7, "y": 8}),
                         "ret (0 8)\nret (1 8)\nchoose 0 : 0 1")
        # In the bound part the variable has the value that it had before.
        self.assertEqual(self.text("(let x (sum x 1) x)", {"x": 7}), "ret 8")

    def test_if(self):
        self.assertEqual(self.text("(if (look s) (get c) (fail f 0))"),
                         "fail 5 0\nret 0\nret 1\nget 2 : 1 2\nlook 1 : 0 3 3")
        self.assertEqual(self.text("(if 0 (get c) (fail f 0))"), "fail 5 0")
        self.assertEqual(self.text("(if 2 (get c) (fail f 0))"), "ret 0\nret 1\nget 2 : 0 1")

    def test_repeat(self):
        self.assertEqual(self.text("(repeat 3 x 0 (sum x 1))"), "ret 3")
        self.assertEqual(self.text("(repeat 2 x x (sum x (choose 0)))", {"x": 5}), "\n".join([
            "ret 5", "ret 6", "choose 0 : 0 1", "ret 7", "choose 0 : 1 3", "choose 0 : 2 4"]))

    def test_call(self):
        functions = {"f": (("x", "y"), ("pair", ("var", "y"), ("var", "x"))),
                     "g": ((), ("call", "f", (("num", 1), ("choose", 0))))}
        self.assertEqual(self.text("(call f 1 2)", {}, functions), "ret (2 1)")
        self.assertEqual(self.text("(call g)", {"x": 9}, functions),
                         "ret (0 1)\nret (1 1)\nchoose 0 : 0 1")
        self.assertEqual(self.text("(call f (choose 0) (get c))", {}, functions), "\n".join([
            "ret (0 0)", "ret (1 0)", "get 2 : 0 1", "ret (0 1)", "ret (1 1)", "get 2 : 3 4",
            "choose 0 : 2 5"]))

    def test_try(self):
        self.assertEqual(self.text("(try f 1 (fail f 1) x)", {"x": 3}), "ret 3")
        self.assertEqual(self.text("(try f 1 (fail f 0) x)", {"x": 3}), "fail 5 0")

    def test_the_example_of_the_document(self):
        program = read_program(
            "main = (try f 0 (let x (put c 1) (let y (note n 1) (fail f 0))) (get c))")
        web = Web(read_book(EXAMPLE))
        self.assertEqual(write_web(web, unfold(web, program)), "\n".join([
            "ret 0", "ret 1", "get 2 : 0 1", "put 2 0 : 2", "put 2 1 : 3", "put 2 1 : 2",
            "put 2 1 : 5", "get 2 : 4 6"]))


class Limits(unittest.TestCase):
    def test_exactly_and_one_beyond(self):
        book = Book("choose", ())
        for text, size in (("1", 1), ("(choose 0)", 3), ("(sum (choose 0) (choose 0))", 7),
                           ("(let x (choose 0) (if x (choose 0) x))", 5),
                           ("(repeat 3 x 0 (mod (sum x (choose 0)) 2))", 15)):
            self.assertEqual(size_of(book, text, limit=size), size)
            if size > 1:
                self.assertIsNone(size_of(book, text, limit=size - 1))

    def test_the_limit_is_400_unless_it_is_given(self):
        book = Book("choose", [("cell", "c", 2)])
        inner = "(choose 0)"
        for _ in range(6):
            inner = f"(sum {inner} (choose 0))"
        self.assertEqual(size_of(book, inner), 255)
        # 145 puts in front of it, and then one more.
        four = "(repeat 4 x 0 (put c 0))"
        sixteen = f"(repeat 4 x 0 {four})"
        many = f"(repeat 4 x 0 {sixteen})"
        for first in (many, many, sixteen, "(put c 0)"):
            inner = f"(let x {first} {inner})"
        self.assertEqual(size_of(book, inner), 400)
        self.assertIsNone(size_of(book, inner, limit=399))
        self.assertIsNone(size_of(book, f"(let x (put c 0) {inner})"))
        self.assertIsNone(size_of(book, f"(sum (choose 0) {inner})"))

    def test_a_part_without_results(self):
        book = Book("choose", [("fail", "f", 1)])
        large = "(choose 0)"
        for _ in range(9):
            large = f"(sum {large} (choose 0))"
        self.assertIsNone(size_of(book, large))
        for text in (f"(pair (fail f 0) {large})", f"(sum (fail f 0) {large})",
                     f"(same (fail f 0) {large})", f"(let x (fail f 0) {large})",
                     f"(if (fail f 0) {large} {large})", f"(repeat 4 x (fail f 0) {large})",
                     f"(if 1 (fail f 0) {large})", f"(if 0 {large} (fail f 0))",
                     f"(pair (pair (fail f 0) {large}) {large})",
                     f"(let x (pair 0 (fail f 0)) {large})"):
            self.assertEqual(size_of(book, text), 1, text)
        self.assertIsNone(size_of(book, f"(pair {large} (fail f 0))"))
        self.assertIsNone(size_of(book, f"(if 0 (fail f 0) {large})"))
        self.assertIsNone(size_of(book, f"(if 1 {large} (fail f 0))"))

    def test_calls_behind_a_part_without_results(self):
        book = Book("choose", [("fail", "f", 1)])
        large = ("sum", ("choose", 0), ("choose", 0))
        for _ in range(8):
            large = ("sum", large, ("choose", 0))
        fail = ("fail", "f", 0)
        web = Web(book)
        functions = {"f": (("x", "y"), large), "g": ((), large)}
        for call in (("call", "f", (fail, ("num", 0))), ("call", "f", (fail, large)),
                     ("call", "f", (("num", 0), fail)), ("put", "c", fail)):
            if call[0] == "call":
                node = unfold_expression(web, functions, call, {})
                self.assertEqual(web.deed_of(node), ("fail", 1, 0))
        for call in (("call", "g", ()), ("call", "f", (("num", 0), ("num", 0)))):
            with self.assertRaises(TooLarge):
                unfold_expression(web, functions, call, {})

    def test_a_try_whose_failing_does_not_occur(self):
        book = Book("choose", [("fail", "f", 2)])
        large = "(choose 0)"
        for _ in range(9):
            large = f"(sum {large} (choose 0))"
        self.assertEqual(size_of(book, f"(try f 0 (choose 0) {large})"), 3)
        self.assertEqual(size_of(book, f"(try f 0 (fail f 1) {large})"), 1)
        self.assertIsNone(size_of(book, f"(try f 0 (fail f 0) {large})"))

    def test_a_try_reads_the_cells_all_the_same(self):
        book = Book("choose", [("fail", "f", 1), ("cell", "c", 3)])
        self.assertEqual(size_of(book, "(try f 0 (choose 0) 1)"), 10)
        self.assertEqual(size_of(book, "(try f 0 (choose 0) 1)", limit=10), 10)
        self.assertIsNone(size_of(book, "(try f 0 (choose 0) 1)", limit=9))

    def test_a_part_that_is_larger_than_the_whole(self):
        book = read_book(EXAMPLE + "\nnote k 01 10")
        noted = "(let x (note n 1) (let y (note n 1) (let z (note k 1) 0)))"
        book = Book("none", [layer for layer in book.layers if layer[0] != "cell"])
        self.assertEqual(size_of(book, noted, limit=4), 4)
        self.assertEqual(size_of(book, f"(try f 0 {noted} 0)", limit=4), 2)
        self.assertIsNone(size_of(book, f"(try f 0 {noted} 0)", limit=3))

    def test_what_was_there_stays(self):
        book = wide_book()
        web = Web(book)
        web.make(("ret", "5"), ())
        node = unfold_expression(web, {}, ("pair", ("choose", 0), ("choose", 0)), {})
        before = list(web)
        names, functions = {"x": 1}, {"f": (("y",), ("var", "y"))}
        again = unfold_expression(web, {}, ("pair", ("choose", 0), ("choose", 0)), {})
        self.assertEqual(again, node)
        call = ("call", "f", (("let", "x", ("num", 2), ("var", "x")),))
        unfold_expression(web, functions, call, names)
        with self.assertRaises(TooLarge):
            unfold_expression(web, {}, ("get", "c"), {}, limit=1)
        self.assertEqual(list(web)[:len(before)], before)
        self.assertEqual(names, {"x": 1})
        self.assertEqual(functions, {"f": (("y",), ("var", "y"))})


class ManyPrograms(unittest.TestCase):
    def test_trees_by_the_words_of_the_document(self):
        counts = [0, 0]
        for book, program in programs(25):
            web = Web(book)
            oracle = Unfolder(book, bodies(program[0]), 400)
            try:
                tree = oracle.tree(program[1], {})
            except TooBig:
                counts[1] += 1
                with self.assertRaises(TooLarge):
                    unfold(web, program)
                continue
            counts[0] += 1
            self.assertEqual(unfold(web, program), node_for(web, tree))
            # The greatest tree of a part is exactly at the limit, and then one beyond it.
            self.assertEqual(unfold(web, program, limit=oracle.most), node_for(web, tree))
            if oracle.most > 1:
                with self.assertRaises(TooLarge):
                    unfold(web, program, limit=oracle.most - 1)
        self.assertGreater(min(counts), 20)

    def test_program_web_and_code_have_the_same_outcomes(self):
        ended = {"done": 0, "fail": 0}
        for book, program in programs(20):
            web = Web(book)
            code = compiled(book, program)
            try:
                root = unfold(web, program)
            except TooLarge:
                root = None
            for start in starts(book):
                for script in scripts(len(code), 5):
                    play = Play(book, start, script)
                    evaluate(play, bodies(program[0]), program[1], {})
                    outcome = run(book, program, start=start, script=script)
                    ended[outcome[1][0]] += 1
                    machine = self.machine_at_its_end(book, program, code, start, script)
                    self.assertEqual(machine.outcome(), outcome)
                    self.assertEqual(machine.deeds, play.deeds)
                    if root is not None:
                        told = run_web(web, root, start=start, script=script)
                        self.assertEqual(told, outcome)
        self.assertGreater(min(ended.values()), 200)

    def machine_at_its_end(self, book, program, code, start, script):
        weights = {}
        for name, _, body in program[0]:
            weights[name] = weight(weights, body)
        machine = Machine(book, code, start, script)
        for _ in range(4 * weight(weights, program[1])):
            if machine.done:
                break
            machine.step()
        # At most four steps for each unit of the weight.
        self.assertTrue(machine.done)
        return machine


if __name__ == "__main__":
    unittest.main()
