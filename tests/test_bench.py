import random
import unittest

from besideandthrough.apart import one_then_other
from besideandthrough.bench import Bench
from besideandthrough.books import Book
from besideandthrough.errors import (
    BenchError, KindError, TextError, TooLarge, WebError)
from besideandthrough.forms import form_of
from besideandthrough.reader import read_program
from besideandthrough.running import run
from besideandthrough.slimming import slimmed
from besideandthrough.states import starts
from besideandthrough.unfolding import unfold
from besideandthrough.verdicts import stands
from besideandthrough.webs import Web
from besideandthrough.webtexts import read_web, write_web
from tests.helpers import KERNELS, SIGNS

LAYERS = (("setting", "s", 2), ("cell", "c", 2), ("note", "n", SIGNS), ("outside", "o", (2,)),
          ("fail", "f", 1))
SET = "main = (put c 1)"
FLIP = "fun f (x 2) = (if x 0 1)\nmain = (put c (call f (get c)))"
LOST = "main = (let x (put c 0) (put c 1))"
READ = "main = (pair (get c) (look s))"
ASK = "main = (try f 0 (if (ask o 0) (fail f 0) (note n 1)) 5)"
DEEP = "main = (pair 0 (pair 0 (pair 0 (pair 0 0))))"
# Nine asks with two answers each: a tree of 1023 nodes.
LARGE = "main = (repeat 4 y (ask o 0) (let z (ask o 0) (ask o 0)))"


def texts_of(bench):
    return {name: bench.text(name) for name in bench.titles}


class WithBench(unittest.TestCase):
    def setUp(self):
        self.book = Book("none", LAYERS)
        self.bench = Bench(self.book)

    def store(self, *pairs):
        for name, text in pairs:
            self.bench.change(("store", name, text))

    def unfolded(self, text):
        web = Web(self.book)
        return web, unfold(web, read_program(text))

    def refuses(self, error, change, bench=None):
        """A change is refused, by itself and behind another one, and changes nothing."""
        bench = bench or self.bench
        before = texts_of(bench), bench.history
        with self.assertRaises(error):
            bench.change(change)
        self.assertEqual((texts_of(bench), bench.history), before)
        with self.assertRaises(error):
            bench.perform([("store", "xx", SET), change, ("store", "yy", SET)])
        self.assertEqual((texts_of(bench), bench.history), before)


class Changes(WithBench):
    def test_a_new_bench(self):
        self.assertIs(self.bench.book, self.book)
        self.assertEqual(self.bench.titles, [])
        self.assertEqual(self.bench.history, [])

    def test_store(self):
        self.store(("b", FLIP), ("a", READ), ("ab", ASK))
        self.assertEqual(self.bench.titles, ["a", "ab", "b"])
        for name, text in (("b", FLIP), ("a", READ), ("ab", ASK)):
            web, root = self.unfolded(text)
            self.assertEqual(self.bench.text(name), write_web(web, root))
            self.assertEqual(self.bench.form(name), form_of(web, root))
        # The name gets the new program.
        self.store(("a", SET))
        self.assertEqual(self.bench.titles, ["a", "ab", "b"])
        self.assertEqual(self.bench.text("a"), "ret 0\nput 2 1 : 0")

    def test_lists_that_are_told_are_copies(self):
        self.store(("a", SET))
        self.bench.titles.append("b")
        self.bench.history.clear()
        self.assertEqual(self.bench.titles, ["a"])
        self.assertEqual(self.bench.history, [("store", "a", SET)])

    def test_join(self):
        self.store(("a", FLIP), ("b", READ))
        self.bench.change(("join", "c", "a", "b"))
        self.bench.change(("join", "a", "a", "a"))
        web, one = self.unfolded(FLIP)
        other = unfold(web, read_program(READ))
        self.assertEqual(self.bench.text("c"), write_web(web, one_then_other(web, one, other)))
        self.assertEqual(self.bench.text("a"), write_web(web, one_then_other(web, one, one)))
        self.assertEqual(self.bench.titles, ["a", "b", "c"])

    def test_slim(self):
        self.store(("a", LOST))
        web, root = self.unfolded(LOST)
        self.bench.change(("slim", "a"))
        self.assertEqual(self.bench.text("a"), write_web(web, slimmed(web, root)[0]))
        self.assertEqual(self.bench.text("a"), "ret 0\nput 2 1 : 0")
        self.assertEqual(self.bench.form("a"), form_of(web, root))

    def test_forget(self):
        self.store(("a", SET), ("b", SET))
        self.bench.change(("forget", "a"))
        self.assertEqual(self.bench.titles, ["b"])
        for call in (lambda: self.bench.form("a"), lambda: self.bench.text("a"),
                     lambda: self.bench.compare("a", "b"), lambda: self.bench.compare("b", "a"),
                     lambda: self.bench.run("a", start=(0, 0, 0, 0, 0))):
            with self.assertRaises(BenchError):
                call()

    def test_compare(self):
        self.store(("a", LOST), ("b", SET), ("c", FLIP))
        web, _ = self.unfolded(SET)
        for one, other, word in (("a", "b", "same"), ("b", "a", "same"), ("a", "c", "parted"),
                                 ("c", "c", "same")):
            told = self.bench.compare(one, other)
            self.assertEqual(told[0], word)
            nodes = [self.copy(web, name) for name in (one, other)]
            self.assertIs(stands(web, *nodes, told), True)

    def copy(self, web, name):
        numbers = []
        source, _ = read_web(self.book, self.bench.text(name))
        for deed, children in source:
            numbers.append(web.make(deed, [numbers[child] for child in children]))
        return numbers[-1]

    def test_run(self):
        self.store(("a", FLIP), ("b", ASK))
        for start in starts(self.book):
            for script in ((), [1], (3, 2), [2, 5, 7]):
                for name, text in (("a", FLIP), ("b", ASK)):
                    wanted = run(self.book, read_program(text), start=start, script=script)
                    self.assertEqual(self.bench.run(name, start=start, script=script), wanted)
            self.assertEqual(self.bench.run("b", start=start),
                             run(self.book, read_program(ASK), start=start))

    def test_names_and_words(self):
        self.store(("a", SET))
        for name in ("", "A", "a1", "abcdefg", "a b", "_"):
            for change in (("store", name, SET), ("join", name, "a", "a"), ("slim", name),
                           ("forget", name), ("odd", name)):
                self.refuses(BenchError, change)
        for change in (("odd", "a"), ("", "a"), ("Store", "a", SET), ("stores", "a", SET, "a"),
                       ("drop", "a")):
            self.refuses(BenchError, change)

    def test_programs_that_do_not_exist(self):
        self.store(("a", SET))
        for change in (("join", "b", "a", "x"), ("join", "b", "x", "a"), ("join", "b", "x", "x"),
                       ("join", "b", "a", "b"), ("slim", "b"), ("forget", "b")):
            self.refuses(BenchError, change)
        # A program of an earlier change of the same row exists.
        self.bench.perform([("store", "b", SET), ("join", "c", "a", "b"), ("forget", "b")])
        self.assertEqual(self.bench.titles, ["a", "c"])

    def test_errors_in_their_order(self):
        with self.assertRaises(TextError) as caught:
            self.bench.change(("store", "a", SET + "\nx"))
        self.assertEqual((caught.exception.line, caught.exception.token), (2, 1))
        # A bad name comes before the text, the text before the kinds, these before the limit.
        self.refuses(BenchError, ("store", "A", "x"))
        self.refuses(TextError, ("store", "a", "main = (get x"))
        self.refuses(KindError, ("store", "a", "main = (get x)"))
        self.refuses(KindError, ("store", "a", LARGE.replace("let z (ask o 0)", "let z (get x)")))
        self.refuses(TooLarge, ("store", "a", LARGE))
        self.store(("a", DEEP), ("b", SET))
        self.refuses(WebError, ("join", "c", "a", "b"))
        self.refuses(WebError, ("join", "c", "b", "a"))
        self.refuses(BenchError, ("join", "C", "b", "a"))
        self.refuses(BenchError, ("join", "c", "x", "a"))

    def test_the_limit(self):
        # Five asks with three answers make a tree of 364 nodes, and eight choices one of 511.
        bench = Bench(Book("choose", [("outside", "o", (3,))]))
        asks = "(repeat 4 y (ask o 0) (ask o 0))"
        bench.change(("store", "a", f"main = {asks}"))
        self.assertEqual(len(bench.text("a").split("\n")), 8)
        self.refuses_on(bench, f"main = (let z (ask o 0) {asks})")
        choices = "(let z (choose 0) (let z (choose 0) (repeat 4 y (choose 0) (choose 0))))"
        bench.change(("store", "b", f"main = {choices}"))
        self.refuses_on(bench, f"main = (let z (choose 0) {choices})")

    def refuses_on(self, bench, text):
        before = texts_of(bench)
        with self.assertRaises(TooLarge):
            bench.change(("store", "a", text))
        self.assertEqual(texts_of(bench), before)

    def test_each_kernel(self):
        coins = {"choose": "(choose 0)", "draw": "(draw 0 1 3)", "spread": "(draw 0 1 3)",
                 "twochoose": "(choose 1)", "twodraw": "(draw 1 1 3)", "mixed": "(draw 0 1 3)"}
        for kernel in KERNELS:
            bench = Bench(Book(kernel, LAYERS))
            coin = coins.get(kernel, "(get c)")
            bench.change(("store", "a", f"main = (let x {coin} (put c {coin}))"))
            bench.change(("store", "b", f"main = (put c {coin})"))
            bench.change(("join", "c", "a", "b"))
            bench.change(("slim", "a"))
            self.assertEqual(bench.compare("a", "b")[0], "same")
            self.assertEqual(bench.compare("a", "c")[0], "parted")

    def test_a_form_that_is_too_large(self):
        bench = Bench(Book("spread", ()))
        bench.change(("store", "a", "main = (pair (choose 0) (pair (draw 0 1 2) (choose 0)))"))
        bench.change(("join", "b", "a", "a"))
        with self.assertRaises(TooLarge):
            bench.form("b")
        with self.assertRaises(TooLarge):
            bench.compare("a", "b")
        self.assertEqual(bench.run("b", start=())[1][0], "done")


class Back(WithBench):
    def test_nothing_to_take_back(self):
        for call in (self.bench.back, self.bench.again):
            with self.assertRaises(BenchError):
                call()
        self.store(("a", SET))
        with self.assertRaises(BenchError):
            self.bench.again()
        self.bench.back()
        with self.assertRaises(BenchError):
            self.bench.back()

    def test_back_and_again(self):
        changes = [("store", "a", SET), ("store", "b", FLIP), ("join", "a", "a", "b"),
                   ("slim", "a"), ("forget", "b"), ("store", "b", READ)]
        stages = [texts_of(self.bench)]
        for change in changes:
            self.bench.change(change)
            stages.append(texts_of(self.bench))
        for at in range(len(changes), 0, -1):
            self.assertEqual(self.bench.history, changes[:at])
            self.assertEqual(texts_of(self.bench), stages[at])
            self.bench.back()
        self.assertEqual((self.bench.history, texts_of(self.bench)), ([], {}))
        for at in range(len(changes)):
            self.bench.again()
            self.assertEqual(self.bench.history, changes[:at + 1])
            self.assertEqual(texts_of(self.bench), stages[at + 1])
        with self.assertRaises(BenchError):
            self.bench.again()

    def test_a_new_change_forgets(self):
        self.store(("a", SET), ("b", SET))
        self.bench.back()
        self.store(("c", SET))
        with self.assertRaises(BenchError):
            self.bench.again()
        self.bench.back()
        self.bench.perform([("store", "d", SET)])
        with self.assertRaises(BenchError):
            self.bench.again()
        self.assertEqual(self.bench.titles, ["a", "d"])

    def test_making_again_leaves_the_others(self):
        self.store(("a", SET), ("b", SET), ("c", SET))
        self.bench.back()
        self.bench.back()
        self.bench.again()
        self.assertEqual(self.bench.titles, ["a", "b"])
        self.bench.again()
        self.assertEqual(self.bench.titles, ["a", "b", "c"])

    def test_a_refused_change_forgets_nothing(self):
        self.store(("a", SET), ("b", FLIP))
        self.bench.back()
        self.refuses(BenchError, ("slim", "b"))
        self.refuses(TextError, ("store", "b", "x"))
        self.bench.perform([])
        self.bench.perform(())
        self.bench.again()
        self.assertEqual(self.bench.history, [("store", "a", SET), ("store", "b", FLIP)])

    def test_several_changes(self):
        changes = [("store", "a", SET), ("join", "b", "a", "a"), ("forget", "a")]
        self.bench.perform(changes)
        changes.append(("slim", "b"))
        self.assertEqual(self.bench.history, changes[:3])
        self.assertEqual(self.bench.titles, ["b"])
        # Each of them is one change of the history.
        self.bench.back()
        self.assertEqual(self.bench.titles, ["a", "b"])
        self.bench.back()
        self.assertEqual(self.bench.titles, ["a"])
        self.bench.again()
        self.assertEqual(self.bench.history, changes[:2])

    def test_one_of_several_is_refused(self):
        self.store(("a", SET), ("b", FLIP))
        self.bench.back()
        before = texts_of(self.bench), self.bench.history
        for changes, error in (([("store", "c", SET), ("slim", "b")], BenchError),
                               ([("forget", "a"), ("join", "c", "a", "a")], BenchError),
                               ([("store", "a", FLIP), ("store", "c", "x"), ("odd", "a")], TextError)):
            with self.assertRaises(error):
                self.bench.perform(changes)
            self.assertEqual((texts_of(self.bench), self.bench.history), before)
        self.bench.again()
        self.assertEqual(self.bench.titles, ["a", "b"])

    def test_replaying(self):
        generator = random.Random(13)
        for kernel in KERNELS:
            book = Book(kernel, LAYERS)
            bench = Bench(book)
            slim_before = set()
            for _ in range(60):
                change = self.some_change(generator)
                try:
                    sort = generator.choice(["change", "change", "change", "several", "back", "again"])
                    if sort == "change":
                        bench.change(change)
                    elif sort == "several":
                        bench.perform([change, self.some_change(generator)])
                    elif sort == "back":
                        bench.back()
                    else:
                        bench.again()
                except (BenchError, WebError):
                    pass
            again = Bench.replayed(book, bench.history)
            self.assertIsInstance(again, Bench)
            self.assertIs(again.book, book)
            self.assertEqual(again.titles, bench.titles)
            self.assertEqual(again.history, bench.history)
            for change in bench.history:
                led = change[0] == "slim" or slim_before & set(change[2:])
                if led and change[0] != "store":
                    slim_before.add(change[1])
                else:
                    slim_before.discard(change[1])
            for name in bench.titles:
                self.assertEqual(again.form(name), bench.form(name))
                if name not in slim_before:
                    self.assertEqual(again.text(name), bench.text(name))

    def some_change(self, generator):
        name, one, other = (generator.choice(["a", "b", "c"]) for _ in range(3))
        return generator.choice([
            ("store", name, generator.choice([SET, FLIP, LOST, READ])), ("store", name, SET),
            ("join", name, one, other), ("slim", name), ("forget", name)])

    def test_replaying_what_is_refused(self):
        with self.assertRaises(BenchError):
            Bench.replayed(self.book, [("store", "a", SET), ("slim", "b")])
        self.assertEqual(Bench.replayed(self.book, ()).titles, [])


if __name__ == "__main__":
    unittest.main()
