import itertools
import unittest

from besideandthrough.books import Book, read_book
from besideandthrough.kinds import check, has
from besideandthrough.plays import Play
from besideandthrough.reader import read_expression, read_program
from besideandthrough.running import deed_for, evaluate, run
from besideandthrough.states import starts
from besideandthrough.values import read_value
from besideandthrough.webruns import deeds_on_run, run_web
from besideandthrough.webtexts import read_web
from tests.helpers import LEFT, wide_book

# Fail layers beneath, between and above a cell and a note layer.
MIDDLE = Book("choose", [("cell", "a", 3), ("fail", "f", 2), ("cell", "b", 3),
                         ("note", "n", LEFT), ("fail", "g", 2)])


def told(text, names=None, functions=None, book=None, start=None, script=()):
    """Evaluates the expression with this text; returns the answer and the play."""
    book = book or wide_book()
    play = Play(book, start or starts(book)[0], script)
    bodies = {name: (parameters, read_expression(body))
              for name, (parameters, body) in (functions or {}).items()}
    return evaluate(play, bodies, read_expression(text), names or {}), play


class Values(unittest.TestCase):
    def check(self, values, **given):
        for text, value in values.items():
            with self.subTest(text):
                answer, play = told(text, **given)
                self.assertEqual(answer, ("value", value))
                self.assertEqual((play.deeds, play.taken), (0, 0))

    def test_plain_expressions(self):
        self.check({
            "7": 7, "x": 3, "y": (1, (2, 0)), "(pair x y)": (3, (1, (2, 0))), "(first y)": 1,
            "(second y)": (2, 0), "(first (second y))": 2, "(sum x 4)": 7, "(mod x 2)": 1,
            "(mod 60 60)": 0, "(mod 59 60)": 59, "(same x 3)": 1, "(same x 2)": 0,
            "(same y (pair 1 (pair 2 0)))": 1, "(same y (pair 1 (pair 2 1)))": 0, "(same y y)": 1,
        }, names={"x": 3, "y": (1, (2, 0))})

    def test_let(self):
        self.check({
            "(let x 1 x)": 1, "(let y 1 (sum x y))": 4, "(let x (sum x 1) (sum x x))": 8,
            "(pair (let x 1 x) x)": (1, 3), "(pair x (let x 1 (let x (sum x 1) x)))": (3, 2),
            "(let x (let x 9 (sum x 1)) x)": 10, "(let y x (let x 5 (pair x y)))": (5, 3),
        }, names={"x": 3})

    def test_if(self):
        self.check({"(if 0 1 2)": 2, "(if 1 1 2)": 1, "(if x 1 2)": 1, "(if (mod x 3) 1 2)": 2,
                    "(if 59 (pair 1 1) 0)": (1, 1)}, names={"x": 3})

    def test_repeat(self):
        self.check({
            "(repeat 1 x 1 (sum x x))": 2, "(repeat 4 x 1 (sum x x))": 16, "(repeat 2 x 5 y)": 3,
            "(repeat 3 y 0 (sum y 2))": 6, "(pair (repeat 2 y 0 7) y)": (7, 3),
            "(repeat 3 x 0 (repeat 2 y x (sum y 1)))": 6, "(repeat 2 y (sum y 1) (sum y y))": 16,
            "(repeat 3 x (pair 0 1) (pair (second x) (sum (first x) (second x))))": (2, 3),
        }, names={"y": 3})

    def test_call(self):
        functions = {"f": (("x", "y"), "(pair y x)"), "g": ((), "7"), "x": (("x",), "(sum x 1)"),
                     "h": (("y",), "(let x y (call f x (call g)))")}
        self.check({
            "(call f 1 2)": (2, 1), "(call g)": 7, "(call x x)": 4, "(call h 2)": (7, 2),
            "(call f (call g) (call f x 1))": ((1, 3), 7), "(call x (call x (call x 0)))": 3,
        }, functions=functions, names={"x": 3})

    def test_a_body_knows_its_parameters_only(self):
        with self.assertRaises(KeyError):
            told("(call g)", functions={"g": ((), "x")}, names={"x": 3})

    def test_what_was_handed_in_stays(self):
        names = {"x": 3}
        play = Play(wide_book(), starts(wide_book())[0], [])
        functions = {"f": (("x",), ("var", "x"))}
        text = "(let x 1 (repeat 2 y x (call f y)))"
        self.assertEqual(evaluate(play, functions, read_expression(text), names), ("value", 1))
        self.assertEqual((names, functions), ({"x": 3}, {"f": (("x",), ("var", "x"))}))


class Deeds(unittest.TestCase):
    def test_reading(self):
        for start in starts(wide_book()):
            answer, play = told("(pair (look s) (get c))", start=start)
            self.assertEqual(answer, ("value", start[:2]))
            self.assertEqual((play.deeds, play.state), (2, start))

    def test_writing(self):
        answer, play = told("(pair (put c (sum x 1)) (get c))", names={"x": 0})
        self.assertEqual(answer, ("value", (0, 1)))
        self.assertEqual((play.deeds, play.state), (2, (0, 1, 0, 0, 0)))
        answer, play = told("(pair (note n 2) (note n 1))")
        self.assertEqual(answer, ("value", (0, 0)))
        self.assertEqual((play.deeds, play.state), (2, (0, 0, 2, 0, 0)))

    def test_choosing_drawing_and_asking(self):
        answer, play = told("(pair (choose 0) (pair (draw 0 2 3) (ask o 0)))", script=[1, 5, 8])
        self.assertEqual(answer, ("value", (1, (1, 2))))
        self.assertEqual((play.deeds, play.taken), (3, 3))
        # 8 is the answer 2 and the rest 2: the setting gets 2, the cell 0.
        self.assertEqual(play.trail, [(4, 0, (0, 0, 0), 2, (2, 0, 0))])
        self.assertEqual(told("(ask o 1)", script=[3])[0], ("value", 0))

    def test_parts_are_evaluated_in_order(self):
        names = {"t": (1, 1)}
        functions = {"f": (("x", "y", "z"), "(pair x (pair y (pair z (choose 0))))")}
        for text, value in (
            ("(pair (choose 0) (choose 0))", (1, 0)),
            ("(sum (choose 0) (mod (choose 0) 2))", 1),
            ("(let x (choose 0) (pair (choose 0) x))", (0, 1)),
            ("(if (choose 0) (choose 0) 5)", 0),
            ("(call f (choose 0) (choose 0) (choose 0))", (1, (0, (1, 1)))),
            ("(repeat 3 x (choose 0) (pair (choose 0) x))", (1, (1, (0, 1)))),
            ("(put c (choose 0))", 0),
        ):
            with self.subTest(text):
                answer, _ = told(text, names, functions, script=[1, 0, 1, 1])
                self.assertEqual(answer, ("value", value))

    def test_only_the_part_that_is_needed(self):
        self.assertEqual(told("(if 1 2 (choose 0))")[1].deeds, 0)
        self.assertEqual(told("(if 0 (choose 0) 2)")[1].deeds, 0)
        self.assertEqual(told("(try f 0 2 (choose 0))")[1].deeds, 0)
        self.assertEqual(told("(repeat 4 x 0 (choose 0))")[1].deeds, 4)

    def test_deeds_of_expressions(self):
        for text, values, deed in (
            ("(choose 1)", [], ("choose", 1)), ("(draw 1 2 5)", [], ("draw", 1, 2, 5)),
            ("(get c)", [], ("get", 2)), ("(look s)", [], ("look", 1)),
            ("(put c 0)", [1], ("put", 2, 1)), ("(note n 0)", [2], ("note", 3, 2)),
            ("(ask o 1)", [], ("ask", 4, 1)),
        ):
            self.assertEqual(deed_for(wide_book(), read_expression(text), values), deed)

    def test_a_play_that_has_done_deeds_before(self):
        play = Play(wide_book(), (1, 0, 0, 0, 0), [1, 0, 1])
        play.answer(("choose", 0))
        play.answer(("put", 2, 1))
        answer = evaluate(play, {}, read_expression("(pair (choose 0) (get c))"), {})
        self.assertEqual(answer, ("value", (0, 1)))
        self.assertEqual((play.deeds, play.taken), (4, 2))


class Failing(unittest.TestCase):
    def test_a_failing(self):
        answer, play = told("(fail f 1)")
        self.assertEqual(answer, ("fail", 5, 1))
        self.assertEqual((play.deeds, play.taken, play.trail), (0, 0, []))

    def test_nothing_behind_a_failing_part_is_evaluated(self):
        functions = {"f": (("x", "y"), "(put c 1)"), "g": ((), "(pair (fail f 0) (put c 1))")}
        for text in ("(pair (fail f 0) (put c 1))", "(sum (fail f 0) (put c 1))",
                     "(same (fail f 0) (put c 1))", "(let x (fail f 0) (put c 1))",
                     "(if (fail f 0) (put c 1) (put c 1))", "(put c (fail f 0))",
                     "(note n (fail f 0))", "(repeat 2 x (fail f 0) (put c 1))",
                     "(repeat 2 x 0 (pair (fail f 0) (put c 1)))", "(first (fail f 0))",
                     "(call f (fail f 0) (put c 1))", "(call f 0 (fail f 0))", "(call g)",
                     "(try f 1 (fail f 0) (put c 1))", "(try f 1 (fail f 1) (fail f 0))",
                     "(try f 0 (fail f 0) (fail f 0))", "(mod (fail f 0) 2)",
                     "(second (fail f 0))"):
            with self.subTest(text):
                answer, play = told(text, functions=functions)
                self.assertEqual(answer, ("fail", 5, 0))
                self.assertEqual(play.deeds, 0)

    def test_deeds_before_a_failing_stay(self):
        answer, play = told("(pair (put c 1) (pair (note n 2) (fail f 0)))")
        self.assertEqual(answer, ("fail", 5, 0))
        self.assertEqual((play.state, play.deeds), ((0, 1, 2, 0, 0), 2))

    def test_which_failings_are_caught(self):
        for layer, number in (("f", 2), ("g", 5)):
            for kind in range(2):
                for other, outer in (("f", 2), ("g", 5)):
                    for caught in range(2):
                        text = f"(try {other} {caught} (fail {layer} {kind}) 7)"
                        answer, _ = told(text, book=MIDDLE)
                        same = (layer, kind) == (other, caught)
                        self.assertEqual(answer, ("value", 7) if same else ("fail", number, kind))

    def test_a_try_that_does_not_fail(self):
        answer, play = told("(try f 0 (pair (put b 2) 5) (put a 1))", book=MIDDLE)
        self.assertEqual(answer, ("value", (0, 5)))
        self.assertEqual((play.state, play.deeds), ((0, 0, 2, 0, 0), 1))

    def test_tries_within_tries(self):
        self.assertEqual(told("(try f 0 (try f 0 (fail f 0) (fail f 0)) 3)")[0], ("value", 3))
        self.assertEqual(told("(try f 0 (try f 1 (fail f 0) 4) 3)")[0], ("value", 3))
        self.assertEqual(told("(try f 0 (try f 0 (fail f 0) 4) 3)")[0], ("value", 4))
        self.assertEqual(told("(try f 0 (fail f 0) (try f 1 (fail f 1) 6))")[0], ("value", 6))

    def test_names_in_a_try(self):
        text = "(let x 1 (try f 0 (let x 2 (fail f 0)) x))"
        self.assertEqual(told(text)[0], ("value", 1))

    def test_a_call_that_fails(self):
        functions = {"f": (("x",), "(if x (fail f 0) 5)")}
        self.assertEqual(told("(try f 0 (call f 1) 8)", functions=functions)[0], ("value", 8))
        self.assertEqual(told("(try f 0 (call f 0) 8)", functions=functions)[0], ("value", 5))


class Restoring(unittest.TestCase):
    WRITES = "(pair (put a 1) (pair (put b 1) (pair (note n 1) {})))"

    def test_above_the_layer(self):
        # Before the try: a is 2, b is 2, the note is 2.
        for layer, state in (("f", (1, 0, 2, 2, 0)), ("g", (1, 0, 1, 2, 0))):
            text = f"(try {layer} 0 {self.WRITES.format(f'(fail {layer} 0)')} 7)"
            play = Play(MIDDLE, (2, 0, 2, 0, 0), ())
            play.answer(("note", 4, 2))
            self.assertEqual(evaluate(play, {}, read_expression(text), {}), ("value", 7))
            self.assertEqual((play.state, play.deeds), (state, 4))

    def test_notes_above_are_lost_and_notes_beneath_stay(self):
        book = Book("none", [("note", "m", LEFT), ("fail", "f", 1), ("note", "n", LEFT)])
        text = "(try f 0 (let x (note m 1) (let x (note n 1) (fail f 0))) (note n 2))"
        _, play = told(text, book=book)
        self.assertEqual(play.state, (1, 0, 2))

    def test_to_the_state_before_this_try(self):
        text = "(let x (put b 1) (try f 0 (let x (put b 2) (fail f 0)) (get b)))"
        self.assertEqual(told(text, book=MIDDLE)[0], ("value", 1))
        text = ("(try f 0 (let x (put b 1) (try f 1 (let x (put b 2) (fail f 0)) 5)) (get b))")
        self.assertEqual(told(text, book=MIDDLE)[0], ("value", 0))
        text = ("(try f 0 (let x (put b 1) (try f 1 (let x (put b 2) (fail f 1)) (get b))) 5)")
        self.assertEqual(told(text, book=MIDDLE)[0], ("value", 1))

    def test_without_a_matching_try_nothing_is_restored(self):
        text = f"(try f 1 {self.WRITES.format('(fail f 0)')} 7)"
        answer, play = told(text, book=MIDDLE)
        self.assertEqual(answer, ("fail", 2, 0))
        self.assertEqual(play.state, (1, 0, 1, 1, 0))

    def test_the_numbers_that_were_taken_stay(self):
        text = "(try f 0 (let x (choose 0) (fail f 0)) (choose 0))"
        answer, play = told(text, script=[0, 1])
        self.assertEqual(answer, ("value", 1))
        self.assertEqual((play.taken, play.deeds), (2, 2))

    def test_the_trail_and_what_an_ask_changes_beneath_stay(self):
        book = Book("none", [("setting", "s", 2), ("cell", "a", 2), ("outside", "o", (2,)),
                             ("fail", "f", 1), ("cell", "b", 2)])
        text = "(try f 0 (let x (put b 1) (let x (ask o 0) (fail f 0))) (get b))"
        answer, play = told(text, book=book, script=[7])
        self.assertEqual(answer, ("value", 0))
        self.assertEqual(play.state, (1, 1, 0, 0, 0))
        self.assertEqual(play.trail, [(3, 0, (0, 0), 1, (1, 1))])


class Runs(unittest.TestCase):
    def test_results(self):
        program = read_program("fun f (x 2) = (pair x (get c))\nmain = (call f (choose 0))")
        outcome = run(wide_book(), program, start=(2, 1, 0, 0, 0), script=[1])
        self.assertEqual(outcome, ((), ("done", "(1 1)", (0, 1, 0, 0, 0))))
        outcome = run(wide_book(), program, start=(0, 0, 0, 0, 0))
        self.assertEqual(outcome, ((), ("done", "(0 0)", (0, 0, 0, 0, 0))))

    def test_failings(self):
        program = read_program("main = (let x (put a 1) (let x (put b 1) (fail f 1)))")
        self.assertEqual(run(MIDDLE, program, start=(0, 0, 0, 0, 0)), ((), ("fail", 2, 1, (1,))))

    def test_the_trail(self):
        program = read_program("main = (sum (ask o 0) (ask o 0))")
        outcome = run(wide_book(), program, start=(1, 1, 0, 0, 0), script=(5, 7))
        self.assertEqual(outcome, (
            ((4, 0, (0, 1, 0), 2, (1, 0, 0)), (4, 0, (0, 0, 0), 1, (2, 0, 0))),
            ("done", "3", (0, 0, 0, 0, 0))))

    def test_what_was_handed_in_stays(self):
        program = read_program("fun f (x 2) = (put c x)\nmain = (call f (choose 0))")
        before, script = repr(program), [1, 2]
        run(wide_book(), program, start=(0, 0, 0, 0, 0), script=script)
        self.assertEqual((repr(program), script), (before, [1, 2]))

    def test_start_and_script_are_passed_by_keyword(self):
        with self.assertRaises(TypeError):
            run(wide_book(), read_program("main = 0"), (0, 0, 0, 0, 0))

    def test_the_deepest_programs(self):
        nest = "(first (pair " * 11 + "{}" + " 0))" * 11
        lines = ["fun a = " + nest.format("(get c)")]
        for before, name in zip("abc", "bcd"):
            lines.append(f"fun {name} = " + nest.format(f"(call {before})"))
        program = read_program("\n".join(lines + ["main = " + nest.format("(call d)")]))
        self.assertEqual(check(wide_book(), program), 2)
        self.assertEqual(run(wide_book(), program, start=(0, 1, 0, 0, 0))[1][1], "1")


BOOK_47 = "kernel none\nfail f 1\ncell c 2\nnote n 01 10"
PROGRAM_47 = "main = (try f 0 (let x (put c 1) (let y (note n 1) (fail f 0))) (get c))"
WEB_47 = """ret 0
ret 1
get 2 : 0 1
put 2 0 : 2
put 2 1 : 3
put 2 1 : 2
put 2 1 : 5
get 2 : 4 6"""


class AgainstAWeb(unittest.TestCase):
    def test_the_example_of_point_47(self):
        book = read_book(BOOK_47)
        program = read_program(PROGRAM_47)
        self.assertEqual(check(book, program), 2)
        web, root = read_web(book, WEB_47)
        for start in starts(book):
            outcome = run(book, program, start=start)
            self.assertEqual(outcome, run_web(web, root, start=start))
            self.assertEqual(outcome, ((), ("done", str(start[1]), (0, start[1], 0))))
            self.assertEqual(deeds_on_run(web, root, start=start), 4)


class ResultsAreValuesOfTheKind(unittest.TestCase):
    PROGRAMS = (
        "main = (sum (look s) (mod (sum (ask o 0) (choose 0)) 3))",
        "main = (repeat 3 x (get c) (sum x (draw 0 1 3)))",
        "fun f (x (2 3)) = (if (first x) (pair (second x) 1) (pair 5 (first x)))\n"
        "main = (call f (pair (choose 0) (look s)))",
        "main = (try f 0 (if (choose 0) (fail f 0) (ask o 0)) (sum 7 (get c)))",
        "fun f (x 3) (y 2) = (let z (put c y) (pair x (get c)))\nmain = (call f (ask o 0) (choose 0))",
        "main = (if (choose 0) (fail f 1) (pair (note n 2) (same (get c) (choose 0))))",
        "main = (fail f 0)",
    )

    def test_many_runs(self):
        for text in self.PROGRAMS:
            program = read_program(text)
            kind = check(wide_book(), program)
            found = set()
            for start in starts(wide_book()):
                for script in itertools.product(range(3), repeat=3):
                    end = run(wide_book(), program, start=start, script=script)[1]
                    if end[0] == "done":
                        found.add(end[1])
                        self.assertTrue(has(kind, read_value(end[1])), text)
            self.assertEqual(found == set(), kind == 0)


if __name__ == "__main__":
    unittest.main()
