import unittest

from besideandthrough.books import Book
from besideandthrough.plays import Play
from besideandthrough.states import starts
from tests.helpers import LEFT, wide_book

# The outside layer stands above all other layers, or beneath them.
DEEP = Book("spread", [("cell", "a", 2), ("fail", "f", 2), ("setting", "b", 3),
                       ("note", "n", LEFT), ("outside", "o", (2, 3))])
HIGH = Book("none", [("outside", "o", (2,)), ("cell", "a", 3), ("setting", "b", 2),
                     ("note", "n", LEFT), ("fail", "f", 1)])


class Taking(unittest.TestCase):
    def setUp(self):
        self.book = wide_book("spread")
        self.start = (2, 1, 0, 0, 0)

    def test_a_new_play(self):
        play = Play(self.book, self.start, [5, 6])
        self.assertIs(play.book, self.book)
        self.assertEqual((play.state, play.taken, play.deeds, play.trail), (self.start, 0, 0, []))

    def test_choose(self):
        for number in (0, 1, 2, 3, 10 ** 40, 10 ** 40 + 1):
            play = Play(self.book, self.start, (number,))
            self.assertEqual(play.answer(("choose", 0)), number % 2)
            self.assertEqual((play.taken, play.deeds, play.state), (1, 1, self.start))

    def test_draw(self):
        for number in list(range(12)) + [10 ** 40, 10 ** 40 + 1]:
            play = Play(self.book, self.start, (number,))
            self.assertEqual(play.answer(("draw", 0, 2, 5)), 0 if number % 5 < 2 else 1)
            self.assertEqual((play.taken, play.deeds, play.state), (1, 1, self.start))

    def test_a_script_that_ends_too_early(self):
        play = Play(self.book, self.start, [1])
        self.assertEqual([play.answer(("choose", 0)) for _ in range(3)], [1, 0, 0])
        self.assertEqual(play.answer(("draw", 0, 1, 2)), 0)
        self.assertEqual(play.answer(("ask", 4, 0)), 0)
        self.assertEqual((play.taken, play.deeds), (5, 5))

    def test_numbers_are_taken_in_order(self):
        play = Play(self.book, self.start, [1, 0, 3, 2])
        told = [play.answer(deed) for deed in (("choose", 0), ("get", 2), ("choose", 0),
                                               ("draw", 0, 1, 3), ("ask", 4, 0))]
        self.assertEqual(told, [1, 1, 0, 0, 2])
        self.assertEqual(play.taken, 4)

    def test_the_other_deeds_take_no_number(self):
        play = Play(self.book, self.start, [1, 1])
        for deed in (("get", 2), ("look", 1), ("put", 2, 0), ("note", 3, 1)):
            play.answer(deed)
        self.assertEqual((play.taken, play.deeds, play.trail), (0, 4, []))

    def test_later_changes_of_the_script_have_no_effect(self):
        script = [1, 1]
        play = Play(self.book, self.start, script)
        play.answer(("choose", 0))
        self.assertEqual(script, [1, 1])
        script[1] = 0
        self.assertEqual(play.answer(("choose", 0)), 1)


class Doing(unittest.TestCase):
    def test_get_and_look(self):
        for start in starts(wide_book()):
            play = Play(wide_book(), start, ())
            self.assertEqual((play.answer(("look", 1)), play.answer(("get", 2))), start[:2])
            self.assertEqual(play.state, start)

    def test_put(self):
        play = Play(HIGH, (0, 2, 1, 0, 0), [3])
        self.assertEqual(play.answer(("put", 2, 1)), 0)
        self.assertEqual(play.state, (0, 1, 1, 0, 0))
        self.assertEqual(play.answer(("get", 2)), 1)

    def test_note(self):
        for first in range(3):
            for second in range(3):
                play = Play(HIGH, (0, 2, 1, 0, 0), [3])
                self.assertEqual(play.answer(("note", 4, first)), 0)
                self.assertEqual(play.state, (0, 2, 1, first, 0))
                # The entry stands first in the product: the first member other than 0 stays.
                self.assertEqual(play.answer(("note", 4, second)), 0)
                self.assertEqual(play.state, (0, 2, 1, first or second, 0))


class Asking(unittest.TestCase):
    def test_nothing_beneath(self):
        play = Play(HIGH, (0, 2, 1, 0, 0), [7])
        play.answer(("note", 4, 2))
        self.assertEqual(play.answer(("ask", 1, 0)), 1)
        self.assertEqual(play.state, (0, 2, 1, 2, 0))
        self.assertEqual(play.trail, [(1, 0, (), 1, ())])

    def test_all_sorts_beneath(self):
        # Deed 1 has 3 answers; the rest gives the cell a, then the setting b.
        for number in list(range(40)) + [10 ** 30 + 17]:
            play = Play(DEEP, (1, 0, 2, 0, 0), [number])
            play.answer(("note", 4, 2))
            self.assertEqual(play.answer(("ask", 5, 1)), number % 3)
            rest = number // 3
            new = (rest % 2, 0, rest // 2 % 3, 0)
            self.assertEqual(play.state, (*new, 0))
            # The setting is not kept, the cell and the note are.
            self.assertEqual(play.trail, [(5, 1, (1, 0, 0, 2), number % 3, new)])

    def test_an_entry_above_stays(self):
        book = Book("none", [("setting", "b", 2), ("outside", "o", (2,)), ("cell", "c", 3),
                             ("note", "n", LEFT)])
        play = Play(book, (1, 0, 2, 0), [2, 1])
        play.answer(("note", 4, 1))
        self.assertEqual(play.answer(("ask", 2, 0)), 0)
        self.assertEqual(play.state, (1, 0, 2, 1))
        self.assertEqual(play.answer(("ask", 2, 0)), 1)
        self.assertEqual(play.state, (0, 0, 2, 1))
        self.assertEqual(play.trail, [(2, 0, (0,), 0, (1,)), (2, 0, (0,), 1, (0,))])

    def test_without_a_number(self):
        play = Play(DEEP, (1, 0, 2, 0, 0), [])
        self.assertEqual(play.answer(("ask", 5, 0)), 0)
        self.assertEqual(play.trail, [(5, 0, (1, 0, 0, 0), 0, (0, 0, 0, 0))])
        self.assertEqual((play.taken, play.deeds), (1, 1))


class Ending(unittest.TestCase):
    def test_results(self):
        play = Play(DEEP, (1, 0, 2, 0, 0), [4])
        play.answer(("note", 4, 1))
        self.assertEqual(play.outcome(("ret", "(0 1)")), ((), ("done", "(0 1)", (1, 0, 0, 1, 0))))

    def test_failings(self):
        play = Play(HIGH, (0, 2, 1, 0, 0), ())
        play.answer(("note", 4, 1))
        self.assertEqual(play.outcome(("fail", 5, 0)), ((), ("fail", 5, 0, (0, 2, 0, 1))))
        play = Play(DEEP, (1, 0, 2, 0, 0), ())
        self.assertEqual(play.outcome(("fail", 2, 1)), ((), ("fail", 2, 1, (1,))))

    def test_the_trail(self):
        play = Play(DEEP, (1, 0, 2, 0, 0), [1, 0])
        play.answer(("ask", 5, 0))
        play.answer(("ask", 5, 1))
        trail, end = play.outcome(("ret", "0"))
        self.assertEqual(trail, ((5, 0, (1, 0, 0, 0), 1, (0, 0, 0, 0)),
                                 (5, 1, (0, 0, 0, 0), 0, (0, 0, 0, 0))))
        self.assertIsInstance(trail, tuple)
        self.assertEqual(end, ("done", "0", (0, 0, 0, 0, 0)))

    def test_an_outcome_is_no_deed(self):
        play = Play(DEEP, (1, 0, 2, 0, 0), [1])
        self.assertEqual(play.outcome(("ret", "0")), play.outcome(("ret", "0")))
        self.assertEqual((play.deeds, play.taken), (0, 0))

    def test_no_layers(self):
        play = Play(Book("none", ()), (), ())
        self.assertEqual(play.outcome(("ret", "5")), ((), ("done", "5", ())))


class Restoring(unittest.TestCase):
    def test_above_each_layer(self):
        book = Book("none", [("cell", "a", 2), ("note", "n", LEFT), ("fail", "f", 1),
                             ("setting", "b", 2), ("cell", "c", 3)])
        earlier = (1, 0, 0, 1, 2)
        later = (0, 2, 0, 1, 0)
        told = {0: (1, 0, 0, 1, 2), 1: (0, 0, 0, 1, 2), 2: (0, 2, 0, 1, 2), 3: (0, 2, 0, 1, 2),
                4: (0, 2, 0, 1, 2), 5: later}
        for layer, state in told.items():
            play = Play(book, earlier, ())
            play.answer(("put", 1, 0))
            play.answer(("note", 2, 2))
            play.answer(("put", 5, 0))
            self.assertEqual(play.state, later)
            play.restore(layer, earlier)
            self.assertEqual(play.state, state, layer)
            self.assertEqual(play.deeds, 3)

    def test_settings_trail_and_numbers_stay(self):
        book = Book("none", [("fail", "f", 1), ("setting", "b", 2), ("cell", "a", 2),
                             ("outside", "o", (2,))])
        play = Play(book, (0, 0, 0, 0), [7, 1])
        before = play.state
        play.answer(("ask", 4, 0))
        self.assertEqual(play.state, (0, 1, 1, 0))
        play.restore(1, before)
        self.assertEqual(play.state, (0, 1, 0, 0))
        self.assertEqual((play.taken, play.deeds, len(play.trail)), (1, 1, 1))
        self.assertEqual(before, (0, 0, 0, 0))


if __name__ == "__main__":
    unittest.main()
