import unittest

from besideandthrough.books import Book
from besideandthrough.errors import TextError, WebError
from besideandthrough.webs import Web, reached
from besideandthrough.webtexts import read_web, write_web
from tests.helpers import fault, joined_tokens, line_changes, text_changes, token_changes, wide_book
from tests.oracles import split_line, web_fault

LINES = """ret (0 (1 2))
ret 1
draw 0 1 3 : 0 1
fail 5 1
choose 0 : 2 3
put 2 1 : 4
get 2 : 5 0
note 3 2 : 6
ask 4 0 : 7 1 7
look 1 : 8 1 6
ask 4 1 : 9"""


def web_of(text):
    """Makes the nodes of a text that is in its form, or returns None if one cannot be made.

    It knows the deeds of the book of LINES by heart.
    """
    ways = {"fail 5 0": 0, "fail 5 1": 0, "choose 0": 2, "get 2": 2, "put 2 0": 1, "put 2 1": 1,
            "look 1": 3, "note 3 0": 1, "note 3 1": 1, "note 3 2": 1, "ask 4 0": 3, "ask 4 1": 1,
            "draw 0 1 3": 2, "draw 0 1 2": 2, "draw 0 2 3": 2, "draw 0 1 5": 2}
    nodes = []
    for line in text.split("\n"):
        deed, _, children = line.partition(" : ")
        indexes = [int(index) for index in children.split()]
        if not line.startswith("ret") and ways.get(deed, -1) != len(indexes):
            return None
        nodes.append((deed, indexes))
    return nodes


def is_order(nodes):
    """Tells whether nodes stand in the order of point [16], each once."""
    found = []

    def go(index):
        for child in nodes[index][1]:
            if child not in found:
                go(child)
        found.append(index)

    go(len(nodes) - 1)
    texts = []
    for index in range(len(nodes)):
        texts.append((nodes[index][0], [texts.index(texts[child]) for child in nodes[index][1]]))
    return found == list(range(len(nodes))) and all(texts.count(text) == 1 for text in texts)


class Writing(unittest.TestCase):
    def test_each_deed(self):
        web, root = read_web(wide_book(), LINES)
        self.assertEqual(write_web(web, root), LINES)

    def test_the_examples_of_point_17(self):
        book = Book("spread", [("cell", "c", 2), ("fail", "f", 1)])
        web = Web(book)
        for deed, children, line in (
            (("ret", "1"), (), "ret 1"),
            (("fail", 2, 0), (), "fail 2 0"),
            (("choose", 0), (0, 1), "choose 0 : 0 1"),
            (("draw", 0, 1, 3), (0, 1), "draw 0 1 3 : 0 1"),
            (("put", 1, 0), (2,), "put 1 0 : 2"),
        ):
            node = web.make(deed, children)
            self.assertEqual(write_web(web, node).split("\n")[-1], line)

    def test_indexes_are_those_of_lines(self):
        web = Web(wide_book())
        for deed, children in ((("ret", "0"), ()), (("ret", "1"), ()), (("ret", "2"), ()),
                               (("choose", 0), (2, 1)), (("choose", 0), (3, 2))):
            web.make(deed, children)
        self.assertEqual(write_web(web, 4), "ret 2\nret 1\nchoose 0 : 0 1\nchoose 0 : 2 0")
        self.assertEqual(write_web(web, 1), "ret 1")

    def test_a_deep_part(self):
        web = Web(wide_book())
        node = web.make(("ret", "0"), ())
        for at in range(3000):
            node = web.make(("put", 2, at % 2), [node])
        text = write_web(web, node)
        self.assertEqual(len(text.split("\n")), 3001)
        read, root = read_web(wide_book(), text)
        self.assertEqual(read.size_of(root), 3001)


class Reading(unittest.TestCase):
    def test_the_web_and_the_last_node(self):
        book = wide_book()
        web, root = read_web(book, LINES)
        self.assertIs(web.book, book)
        self.assertEqual(root, 10)
        self.assertEqual(reached(web, root), list(range(11)))
        self.assertEqual(list(web)[:4], [
            (("ret", "(0 (1 2))"), ()), (("ret", "1"), ()), (("draw", 0, 1, 3), (0, 1)),
            (("fail", 5, 1), ())])

    def test_faults(self):
        for text, line, token in (
            ("", 1, 1),
            ("odd", 1, 1),
            ("idle 0 0", 1, 1),
            ("ret", 1, 2),
            ("ret x", 1, 2),
            ("ret 0 0", 1, 3),
            ("ret (0 1", 1, 5),
            ("ret (0 1) 2", 1, 6),
            ("ret 1000", 1, 2),
            ("ret 0 : 0", 1, 3),
            ("ret (((((0 1) 2) 3) 4) 5)", 1, 6),
            ("fail", 1, 2),
            ("fail 1", 1, 3),
            ("fail 1 x", 1, 3),
            ("fail 1 0 : 0", 1, 4),
            ("fail 1 0 0", 1, 4),
            ("ret 0\nchoose", 2, 2),
            ("ret 0\nchoose 0", 2, 3),
            ("ret 0\nchoose 0 0 : 0 0", 2, 3),
            ("ret 0\nchoose 0 :", 2, 4),
            ("ret 0\nchoose 0 : 0 1", 2, 5),
            ("ret 0\nchoose 0 : 2 0", 2, 4),
            ("ret 0\nchoose 0 : 0 00", 2, 5),
            ("ret 0\nchoose 0 : x", 2, 4),
            ("ret 0\nchoose : 0 0", 2, 2),
            ("ret 0\ndraw 0 1 : 0 0", 2, 4),
            ("ret 0\nput 01 0 : 0", 2, 2),
            ("ret 0\nask 1 0 : 0 :", 2, 6),
            ("ret 0\nget 1 : (0)", 2, 4),
            ("choose 0 : 0 0", 1, 4),
            ("ret 0\n", 2, 1),
            ("\nret 0", 1, 1),
            ("ret 0\nret  1", 2, 2),
            ("ret 0\nput 1 0 : 0 ", 2, 6),
            ("(ret 0)", 1, 1),
        ):
            with self.subTest(text):
                self.assertEqual(fault(read_web, wide_book(), text), (line, token))

    def test_forty_and_forty_one_digits(self):
        forty, more = "1" * 40, "1" * 41
        for line, token in (("fail {} 0", 2), ("fail 5 {}", 3)):
            self.assertEqual(fault(read_web, wide_book(), line.format(more)), (1, token))
            with self.assertRaises(WebError):
                read_web(wide_book(), line.format(forty))
        for line, token in (("draw 0 1 {} : 0 1", 4), ("draw 0 {} 3 : 0 1", 3),
                            ("choose 0 : {} 0", 4), ("choose 0 : 0 {}", 5)):
            text = "ret 0\nret 1\n" + line
            self.assertEqual(fault(read_web, wide_book(), text.format(more)), (3, token))
        text = f"ret 0\nret 1\ndraw 0 1 {forty} : 0 1"
        web, root = read_web(wide_book(), text)
        self.assertEqual(web.deed_of(root), ("draw", 0, 1, int(forty)))
        self.assertEqual(write_web(web, root), text)
        self.assertEqual(fault(read_web, wide_book(), text.replace(" 1 1", " 1 01")), (3, 4))
        self.assertEqual(fault(read_web, wide_book(), f"ret 0\nchoose 0 : 0 {forty}"), (2, 5))
        self.assertEqual(fault(read_web, wide_book(), "ret 1111"), (1, 2))

    def test_all_lines_are_read_before_nodes_are_made(self):
        text = "ret 0\nchoose 7 : 0\nodd"
        self.assertEqual(fault(read_web, wide_book(), text), (3, 1))
        with self.assertRaises(WebError):
            read_web(wide_book(), text[:-4])

    def test_deeds_and_children_that_cannot_be(self):
        for text in ("fail 5 2", "fail 1 0", "fail 0 0", "fail 9 0", "ret 0\nchoose 0 : 0",
                     "ret 0\nchoose 0 : 0 0 0", "ret 0\nchoose 1 : 0 0", "ret 0\nget 1 : 0 0",
                     "ret 0\nput 2 2 : 0", "ret 0\ndraw 0 2 4 : 0 0", "ret 0\nlook 1 : 0 0",
                     "ret 0\nnote 3 3 : 0", "ret 0\nask 4 2 : 0", "ret 0\nask 4 0 : 0"):
            with self.subTest(text), self.assertRaises(WebError):
                read_web(wide_book(), text)

    def test_texts_in_their_form_that_are_not_written_so(self):
        for text in ("ret 0\nret 0", "ret 0\nret 1", "ret 0\nret 1\nchoose 0 : 1 0",
                     "ret 0\nret 0\nchoose 0 : 0 1", "ret 0\nchoose 0 : 0 0\nret 1",
                     "ret 0\nret 1\nput 2 0 : 0\nput 2 0 : 1\nchoose 0 : 2 3"):
            with self.subTest(text), self.assertRaises(WebError):
                read_web(wide_book(), text)

    def test_changed_texts(self):
        lines = LINES.split("\n")
        texts = list(text_changes(LINES)) + list(line_changes(LINES))
        others = ["ret", "fail", "choose", "put", "odd", ":", "0", "1", "2", "5", "01", "(", ")"]
        for at, line in enumerate(lines):
            for tokens in token_changes(split_line(line), others):
                texts.append("\n".join(lines[:at] + [joined_tokens(tokens)] + lines[at + 1:]))
        outcomes = {"fault": 0, "web": 0, "read": 0}
        for text in texts:
            outcomes[self.check(text)] += 1
        self.assertTrue(all(outcomes.values()), outcomes)

    def check(self, text):
        expected = web_fault(text)
        nodes = None if expected else web_of(text)
        try:
            web, root = read_web(wide_book(), text)
        except TextError as error:
            self.assertEqual((error.line, error.token), expected, text)
            return "fault"
        except WebError:
            self.assertIsNone(expected, text)
            self.assertTrue(nodes is None or not is_order(nodes), text)
            return "web"
        self.assertIsNone(expected, text)
        self.assertTrue(nodes is not None and is_order(nodes), text)
        self.assertEqual(write_web(web, root), text)
        return "read"


if __name__ == "__main__":
    unittest.main()
