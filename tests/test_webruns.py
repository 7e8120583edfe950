import itertools
import unittest
from fractions import Fraction

from besideandthrough.books import Book
from besideandthrough.plays import Play
from besideandthrough.states import starts
from besideandthrough.webruns import deeds_on_run, run_web, walk, ways
from besideandthrough.webs import Web
from besideandthrough.webtexts import read_web
from tests.helpers import LEFT, wide_book

WEB = """ret 0
ret 1
choose 0 : 0 1
put 2 1 : 2
fail 5 1
note 3 2 : 4
ask 4 0 : 2 3 5
get 2 : 6 2
draw 0 2 5 : 7 3
ret 2
look 1 : 8 7 9"""


def meaning(web, root, start, script):
    """The numbers of the way that a run with this script is, by the words of point [36]."""
    play = Play(web.book, start, script)
    numbers, node = [], root
    while web.children_of(node):
        deed = web.deed_of(node)
        number = script[play.taken] if play.taken < len(script) else 0
        if deed[0] == "choose":
            numbers.append(number % 2)
        elif deed[0] == "draw":
            numbers.append(0 if number % deed[3] < deed[2] else deed[2])
        elif deed[0] == "ask":
            many = web.book.ways_at(deed[1], deed[2])
            for word, _, size in web.book.layers[:deed[1] - 1]:
                many *= size if word in ("cell", "setting") else 1
            numbers.append(number % many)
        node = web.children_of(node)[play.answer(deed)]
    return tuple(numbers)


class Runs(unittest.TestCase):
    def setUp(self):
        self.web, self.root = read_web(wide_book(), WEB)

    def test_walking(self):
        play = Play(self.web.book, (1, 0, 0, 0, 0), [4, 1])
        self.assertEqual(self.web.deed_of(walk(play, self.web, self.root)), ("ret", "1"))
        self.assertEqual((play.deeds, play.taken, play.state), (5, 2, (1, 1, 0, 0, 0)))
        self.assertEqual(play.trail, [(4, 0, (0, 0, 0), 1, (1, 0, 0))])

    def test_walking_in_a_play_that_has_done_deeds_before(self):
        play = Play(self.web.book, (1, 0, 0, 0, 0), [1, 0, 1])
        play.answer(("choose", 0))
        play.answer(("put", 2, 1))
        self.assertEqual(self.web.deed_of(walk(play, self.web, self.root)), ("ret", "0"))
        self.assertEqual((play.deeds, play.taken), (5, 2))

    def test_walking_from_a_node_without_deeds(self):
        play = Play(self.web.book, (1, 0, 0, 0, 0), [1])
        self.assertEqual(walk(play, self.web, 4), 4)
        self.assertEqual((play.deeds, play.taken), (0, 0))

    def test_outcomes(self):
        def outcome(start, *script):
            return run_web(self.web, self.root, start=start, script=script)

        self.assertEqual(outcome((2, 1, 0, 0, 0), 1), ((), ("done", "2", (0, 1, 0, 0, 0))))
        self.assertEqual(outcome((0, 1, 0, 0, 0), 2, 1), ((), ("done", "1", (0, 1, 0, 0, 0))))
        self.assertEqual(outcome((0, 0, 0, 0, 0), 6, 14),
                         (((4, 0, (0, 0, 0), 2, (1, 1, 0)),), ("fail", 5, 1, (0, 1, 2, 0))))
        self.assertEqual(outcome((0, 0, 0, 0, 0)),
                         (((4, 0, (0, 0, 0), 0, (0, 0, 0)),), ("done", "0", (0, 0, 0, 0, 0))))

    def test_the_kept_entry_of_a_failing_beneath(self):
        book = Book("none", [("fail", "f", 1), ("cell", "c", 2)])
        web, root = read_web(book, "fail 1 0\nput 2 1 : 0")
        self.assertEqual(run_web(web, root, start=(0, 0)), ((), ("fail", 1, 0, ())))
        web, root = read_web(book, "ret 0\nput 2 1 : 0")
        self.assertEqual(run_web(web, root, start=(0, 0)), ((), ("done", "0", (0, 1))))

    def test_numbers_of_deeds(self):
        def many(start, *script):
            return deeds_on_run(self.web, self.root, start=start, script=script)

        self.assertEqual(many((2, 1, 0, 0, 0)), 1)
        self.assertEqual(many((0, 1, 0, 0, 0), 2, 1), 4)
        self.assertEqual(many((0, 0, 0, 0, 0), 0, 2), 5)
        self.assertEqual(many((1, 0, 0, 0, 0), 1), 5)
        self.assertEqual(deeds_on_run(self.web, 0, start=(0, 0, 0, 0, 0)), 0)

    def test_what_was_handed_in_stays(self):
        script = [4, 1]
        before = list(self.web)
        run_web(self.web, self.root, start=(1, 0, 0, 0, 0), script=script)
        deeds_on_run(self.web, self.root, start=(1, 0, 0, 0, 0), script=script)
        list(ways(self.web, self.root, (1, 0, 0, 0, 0)))
        self.assertEqual((script, list(self.web)), ([4, 1], before))

    def test_start_and_script_are_passed_by_keyword(self):
        with self.assertRaises(TypeError):
            run_web(self.web, self.root, (0, 0, 0, 0, 0))
        with self.assertRaises(TypeError):
            deeds_on_run(self.web, self.root, (0, 0, 0, 0, 0))

    def test_a_long_run(self):
        node = 0
        for at in range(5000):
            node = self.web.make(("put", 2, at % 2), [node])
        self.assertEqual(deeds_on_run(self.web, node, start=(0, 0, 0, 0, 0)), 5000)
        self.assertEqual([way[3] for way in ways(self.web, node, (0, 0, 0, 0, 0))], [5000])


class Ways(unittest.TestCase):
    def test_the_example_of_point_38(self):
        web, root = read_web(Book("draw", ()), "ret 0\nret 1\ndraw 0 2 3 : 0 1")
        self.assertEqual(list(ways(web, root, ())), [
            ((0,), (2, 3), ((), ("done", "0", ())), 1),
            ((2,), (1, 3), ((), ("done", "1", ())), 1)])

    def test_a_node_without_deeds(self):
        web, root = read_web(wide_book(), "ret 5")
        self.assertEqual(list(ways(web, root, (2, 1, 0, 0, 0))), [
            ((), (1, 1), ((), ("done", "5", (0, 1, 0, 0, 0))), 0)])
        web, root = read_web(wide_book(), "fail 5 0")
        self.assertEqual(list(ways(web, root, (2, 1, 0, 0, 0))), [
            ((), (1, 1), ((), ("fail", 5, 0, (0, 1, 0, 0))), 0)])

    def test_choices(self):
        web, root = read_web(Book("twochoose", ()), "ret 0\nret 1\nchoose 1 : 0 1\nchoose 0 : 2 0")
        self.assertEqual(list(ways(web, root, ())), [
            ((0, 0), (1, 1), ((), ("done", "0", ())), 2),
            ((0, 1), (1, 1), ((), ("done", "1", ())), 2),
            ((1,), (1, 1), ((), ("done", "0", ())), 1)])

    def test_shares(self):
        web, root = read_web(Book("spread", ()), (
            "ret 0\nret 1\nret 2\ndraw 0 1 4 : 1 2\nchoose 0 : 3 0\ndraw 0 2 3 : 0 4"))
        self.assertEqual([way[:2] for way in ways(web, root, ())], [
            ((0,), (2, 3)), ((2, 0, 0), (1, 12)), ((2, 0, 1), (1, 4)), ((2, 1), (1, 3))])

    def test_draws_of_mixed(self):
        web, root = read_web(Book("mixed", ()), "ret 0\nret 1\ndraw 0 1 6 : 0 1")
        self.assertEqual([way[:2] for way in ways(web, root, ())], [((0,), (1, 6)), ((1,), (5, 6))])

    def test_asks(self):
        book = Book("none", [("cell", "a", 2), ("note", "n", LEFT), ("setting", "s", 3),
                             ("outside", "o", (2, 1)), ("cell", "b", 2)])
        web, root = read_web(book, "ret 0\nret 1\nask 4 0 : 0 1")
        found = list(ways(web, root, (1, 0, 2, 0, 1)))
        self.assertEqual([way[0] for way in found], [(number,) for number in range(12)])
        self.assertEqual(found[7], (
            (7,), (1, 1),
            (((4, 0, (1, 0, 0), 1, (1, 0, 1)),), ("done", "1", (1, 0, 0, 0, 1))), 1))

    def test_a_state_that_is_used_on_the_way(self):
        book = Book("choose", [("cell", "a", 2)])
        web, root = read_web(book, (
            "ret 0\nret 1\nget 1 : 0 1\nput 1 1 : 2\nchoose 0 : 2 3"))
        for start in starts(book):
            self.assertEqual([way[2:] for way in ways(web, root, start)], [
                (((), ("done", str(start[0]), start)), 2), (((), ("done", "1", (1,))), 3)])

    def test_order_and_runs(self):
        web, root = read_web(wide_book(), WEB)
        for start in starts(web.book):
            found = list(ways(web, root, start))
            numbers = [way[0] for way in found]
            self.assertEqual(numbers, sorted(set(numbers)))
            for taken, _, outcome, deeds in found:
                self.assertEqual(run_web(web, root, start=start, script=taken), outcome)
                self.assertEqual(deeds_on_run(web, root, start=start, script=taken), deeds)
                self.assertEqual(meaning(web, root, start, taken), taken)

    def test_each_run_is_one_way(self):
        web, root = read_web(wide_book(), WEB)
        for start in starts(web.book):
            found = {way[0]: way[2:] for way in ways(web, root, start)}
            for script in itertools.product((0, 1, 2, 4, 7, 18, 35, 1003), repeat=3):
                told = found[meaning(web, root, start, script)]
                self.assertEqual(told, (run_web(web, root, start=start, script=script),
                                        deeds_on_run(web, root, start=start, script=script)))

    def test_shares_of_all_ways(self):
        web, root = read_web(Book("twodraw", ()), (
            "ret 0\nret 1\ndraw 1 5 6 : 0 1\ndraw 0 3 7 : 2 1\ndraw 1 1 2 : 3 2"))
        found = list(ways(web, root, ()))
        self.assertEqual(sum(Fraction(*way[1]) for way in found), 1)
        self.assertTrue(all(Fraction(*way[1]).as_integer_ratio() == way[1] for way in found))

    def test_ways_are_found_one_by_one(self):
        web = Web(wide_book())
        node = web.make(("ret", "0"), ())
        for _ in range(300):
            node = web.make(("choose", 0), [node, node])
        some = ways(web, node, (0, 0, 0, 0, 0))
        self.assertEqual(next(some)[0], (0,) * 300)
        self.assertEqual(next(some)[0], (0,) * 299 + (1,))


if __name__ == "__main__":
    unittest.main()
