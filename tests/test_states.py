import itertools
import unittest

from besideandthrough.books import Book
from besideandthrough.states import changed, kept, noted, place_below, starts, starts_below
from tests.helpers import LEFT, SIGNS, wide_book

BOOKS = (
    Book("none", ()),
    Book("none", [("fail", "f", 1)]),
    Book("none", [("cell", "a", 3), ("setting", "b", 2), ("cell", "c", 2)]),
    Book("none", [("note", "n", SIGNS), ("cell", "a", 2), ("outside", "o", (2,)),
                  ("setting", "b", 3)]),
    wide_book(),
)


def all_states(book):
    """All tuples of entries, also with notes, ascending."""
    rooms = []
    for word, _, extent in book.layers:
        if word == "note":
            rooms.append(range(len(extent)))
        else:
            rooms.append(range(extent) if word in ("cell", "setting") else range(1))
    return list(itertools.product(*rooms))


def notes_are_0(book, state, layer):
    return all(state[at] == 0 for at in range(layer - 1) if book.layers[at][0] == "note")


class Starts(unittest.TestCase):
    def test_starts(self):
        self.assertEqual(starts(Book("none", ())), [()])
        self.assertEqual(starts(Book("none", [("fail", "f", 2)])), [(0,)])
        self.assertEqual(starts(BOOKS[2])[:5], [(0, 0, 0), (0, 0, 1), (0, 1, 0), (0, 1, 1),
                                                (1, 0, 0)])
        self.assertEqual(starts(wide_book()), [
            (0, 0, 0, 0, 0), (0, 1, 0, 0, 0), (1, 0, 0, 0, 0), (1, 1, 0, 0, 0), (2, 0, 0, 0, 0),
            (2, 1, 0, 0, 0)])

    def test_starts_are_all_states_without_notes(self):
        for book in BOOKS:
            expected = [state for state in all_states(book)
                        if notes_are_0(book, state, book.size + 1)]
            self.assertEqual(starts(book), expected)

    def test_twelve_starts(self):
        book = Book("none", [("cell", "a", 2), ("cell", "b", 2), ("setting", "c", 3)])
        self.assertEqual(len(starts(book)), 12)


class Below(unittest.TestCase):
    def test_an_example(self):
        found = starts_below(wide_book(), 3, (2, 1, 2, 0, 0))
        self.assertEqual(found, [(s, c, 2, 0, 0) for s in range(3) for c in range(2)])
        found = starts_below(wide_book(), 4, (2, 1, 2, 0, 0))
        self.assertEqual(found, [(s, c, 0, 0, 0) for s in range(3) for c in range(2)])
        self.assertEqual(starts_below(wide_book(), 2, (2, 1, 1, 0, 0)),
                         [(s, 1, 1, 0, 0) for s in range(3)])

    def test_each_layer_of_each_state(self):
        for book in BOOKS:
            for state in all_states(book):
                for layer in range(1, book.size + 2):
                    expected = [other for other in all_states(book)
                                if other[layer - 1:] == state[layer - 1:]
                                and notes_are_0(book, other, layer)]
                    self.assertEqual(starts_below(book, layer, state), expected)

    def test_beneath_the_lowest_and_above_the_highest_layer(self):
        for book in BOOKS:
            for state in all_states(book):
                self.assertEqual(starts_below(book, 1, state), [state])
                self.assertEqual(starts_below(book, book.size + 1, state), starts(book))

    def test_places(self):
        for book in BOOKS:
            valued = [at for at in range(book.size) if book.layers[at][0] in ("cell", "setting")]
            for state in all_states(book):
                for layer in range(1, book.size + 2):
                    place = place_below(book, layer, state)
                    found = starts_below(book, layer, state)[place]
                    self.assertEqual([found[at] for at in valued], [state[at] for at in valued])

    def test_a_place_does_not_depend_on_notes(self):
        self.assertEqual(place_below(wide_book(), 6, (1, 1, 2, 0, 0)), 3)
        self.assertEqual(place_below(wide_book(), 3, (2, 0, 1, 0, 0)), 4)
        self.assertEqual(place_below(wide_book(), 2, (2, 1, 1, 0, 0)), 2)


class Kept(unittest.TestCase):
    def test_settings_are_not_kept(self):
        state = (2, 1, 2, 0, 0)
        self.assertEqual([kept(wide_book(), state, layer) for layer in range(1, 7)], [
            (), (0,), (0, 1), (0, 1, 2), (0, 1, 2, 0), (0, 1, 2, 0, 0)])

    def test_each_state(self):
        for book in BOOKS:
            for state in all_states(book):
                for layer in range(1, book.size + 2):
                    expected = tuple(
                        0 if book.layers[at][0] == "setting" else state[at]
                        for at in range(layer - 1))
                    self.assertEqual(kept(book, state, layer), expected)


class Changes(unittest.TestCase):
    def test_changed(self):
        self.assertEqual(changed((1, 2, 3), 1, 9), (9, 2, 3))
        self.assertEqual(changed((1, 2, 3), 2, 9), (1, 9, 3))
        self.assertEqual(changed((1, 2, 3), 3, 9), (1, 2, 9))

    def test_the_entry_stands_first_in_the_product(self):
        book = Book("none", [("cell", "c", 2), ("note", "n", LEFT)])
        for entry in range(3):
            for member in range(3):
                told = noted(book, (1, entry), 2, member)
                self.assertEqual(told, (1, member if entry == 0 else entry))

    def test_the_state_stays(self):
        state = (1, 1, 2, 0, 0)
        changed(state, 2, 0)
        noted(wide_book(), state, 3, 1)
        self.assertEqual(state, (1, 1, 2, 0, 0))


if __name__ == "__main__":
    unittest.main()
