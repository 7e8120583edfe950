import importlib
import inspect
import unittest

FUNCTIONS = {
    "tokens": ("tokens_of(line, number)", "number_in(token)", "is_name(token)"),
    "values": ("value_text(value)", "read_value(text)", "is_value_text(text)"),
    "shares": ("lowest(num, den)", "plus(a, b)", "minus(a, b)", "times(a, b)", "below(a, b)",
               "greater(a, b)", "mean(num, den, a, b)"),
    "books": ("choices(kernel)", "draws(kernel)", "like_books(one, other)", "read_book(text)",
              "write_book(book)"),
    "states": ("starts(book)", "starts_below(book, layer, state)",
               "place_below(book, layer, state)", "kept(book, state, layer)",
               "changed(state, layer, entry)", "noted(book, state, layer, member)"),
    "webs": ("ways_on(book, deed)", "reached(web, root)", "copied(web, source, root)"),
    "webtexts": ("write_web(web, root)", "read_web(book, text)"),
    "reader": ("read_program(text)", "read_expression(text)"),
    "writer": ("write_program(program)", "write_expression(expression)", "write_kind(kind)"),
    "kinds": ("joined(one, other)", "fits(kind, other)", "has(kind, value)",
              "kind_of(book, functions, expression, names)", "weight(functions, expression)",
              "check(book, program)"),
    "running": ("evaluate(play, functions, expression, names)",
                "run(book, program, *, start, script=())"),
    "webruns": ("walk(play, web, root)", "run_web(web, root, *, start, script=())",
                "deeds_on_run(web, root, *, start, script=())", "ways(web, root, start)"),
    "grafts": ("results(web, root)", "grafted(web, root, table)",
               "caught(web, root, layer, kind, other)"),
    "unfolding": ("unfold_expression(web, functions, expression, names, *, limit=400)",
                  "unfold(web, program, *, limit=400)"),
    "compiling": ("compiled(book, program)",),
    "machine": ("run_code(book, code, *, start, script=())",),
    "standings": ("write_standing(machine)", "read_standing(book, code, script, text)",
                  "standings(book, code, *, start, script=())"),
    "points": ("point_of(pairs)", "blend(a, b, one, other)"),
    "hulls": ("nearest(point, others)",),
    "bodies": ("only(end)", "settled(kernel, points, *, most=8)", "either(kernel, one, other)",
               "drawn(kernel, a, b, one, other)", "ends_of(body)", "ends_within(body)",
               "carried(kernel, body, images)"),
    "forms": ("body_at(web, node, state)", "form_of(web, root)"),
    "acting": ("prefixed(book, body, notes)", "body_in(book, form, state)",
               "act(book, deed, forms)", "form_from_ends(web, root)"),
    "thens": ("then(book, form, table)", "rescue(book, form, layer, kind, other)"),
    "terms": ("end_term(web, end)", "body_term(web, body)", "part_term(web, layer, part)",
              "term_of(web, form)", "end_of(web, node)", "body_of(web, node)",
              "part_of(web, layer, node)"),
    "steps": ("may_swap(book, one, other)", "members_of(web, piece, node)",
              "shares_of(web, piece, node)", "is_step(web, word, a, b)"),
    "papers": ("judge(paper)", "turned(paper)", "followed(paper, *others)",
               "cut(paper, *, row=0)"),
    "papertexts": ("nodes_of(paper)", "write_paper(paper)", "read_paper(book, text)"),
    "squares": ("collapse(draft, node)",),
    "settles": ("settle(draft, node)",),
    "pushes": ("push(draft, deed, node)",),
    "leading": ("lead(draft, root)", "paper_between(web, a, b)"),
    "worlds": ("write_world(world)", "read_world(book, text)"),
    "valuing": ("worth(world, web, root, state)", "body_worth(world, body)"),
    "parting": ("parting_world(web, *roots)", "parted(web, a, b)"),
    "slimming": ("slim(draft, root)", "slimmed(web, root)"),
    "apart": ("one_then_other(web, one, other)", "other_then_one(web, one, other)",
              "result_dropped(web, one)", "one_result_twice(web, one)",
              "change_places(web, one, other)", "left_out(web, one)", "twice(web, one)"),
    "undoing": ("undone(web, root)", "redone(web, root, pairs)"),
    "lifting": ("places_within(lesser, greater)", "lifted(web, source, root)"),
    "verdicts": ("verdict(web, one, other)", "stands(web, one, other, told)"),
}
CLASSES = {
    "errors": {"DeedsError": (), "TextError": ("(line, token)",), "BookError": ("(layer)",),
               "KindError": ("(where)",), "PaperError": ("(row)",), "WorldError": ("(row)",),
               "WebError": (), "TooLarge": (), "MachineError": (), "BenchError": ()},
    "books": {"Book": ("(kernel, layers)", "word_at(layer)", "count_at(layer)",
                       "ways_at(layer, deed)", "product(layer, first, second)",
                       "number_of(name)")},
    "webs": {"Web": ("(book)", "make(deed, children)", "deed_of(node)", "children_of(node)",
                     "size_of(node)")},
    "plays": {"Play": ("(book, start, script)", "answer(deed)", "restore(layer, state)",
                       "outcome(deed)")},
    "machine": {"Machine": ("(book, code, start, script)", "step()", "outcome()")},
    "forms": {"Evaluator": ("(web)", "__call__(node, state)")},
    "papers": {"Paper": ("(web, rows)",)},
    "drafts": {"Draft": ("(web)", "like(node)", "turn(number)", "join(first, second)",
                         "within(a, b, refs)", "by(word, a, b)", "left(number)", "right(number)",
                         "paper(number)")},
    "leading": {"Leader": ("(draft)", "__call__(root)")},
    "worlds": {"World": ("(book, scales, rows=())", "row_of(key)")},
    "bench": {"Bench": ("(book)", "change(change)", "perform(changes)", "back()", "again()",
                        "form(name)", "text(name)", "compare(one, other)",
                        "run(name, *, start, script=())")},
}
GENERATORS = {"webruns": "ways", "standings": "standings", "bodies": "ends_within",
              "papertexts": "nodes_of"}
ITERATED = {"webs": "Web", "papers": "Paper", "drafts": "Draft", "worlds": "World"}
PROPERTIES = (("machine", "Machine", "instruction"), ("forms", "Evaluator", "worked"),
              ("leading", "Leader", "nodes_led"), ("bench", "Bench", "titles"),
              ("bench", "Bench", "history"))


class Interface(unittest.TestCase):
    def module(self, name):
        return importlib.import_module("besideandthrough." + name)

    def test_functions(self):
        for place, told in FUNCTIONS.items():
            module = self.module(place)
            for line in told:
                with self.subTest(line):
                    found = getattr(module, line.split("(")[0])
                    self.assertEqual(found.__module__, module.__name__)
                    self.assertEqual(found.__name__ + str(inspect.signature(found)), line)

    def test_classes(self):
        for place, classes in CLASSES.items():
            module = self.module(place)
            for name, methods in classes.items():
                found = getattr(module, name)
                self.assertEqual(found.__module__, module.__name__)
                for line in methods:
                    with self.subTest(name + " " + line):
                        word = line.split("(")[0] or "__init__"
                        # Defined in the class itself, not only in a base class.
                        method = vars(found)[word]
                        told = str(inspect.signature(method)).replace("(self, ", "(")
                        told = told.replace("(self)", "()")
                        self.assertEqual(told, "(" + line.split("(", 1)[1])

    def test_generators(self):
        for place, name in GENERATORS.items():
            self.assertTrue(inspect.isgeneratorfunction(getattr(self.module(place), name)), name)

    def test_objects_can_be_iterated_over(self):
        for place, name in ITERATED.items():
            self.assertIn("__iter__", vars(getattr(self.module(place), name)))

    def test_properties_cannot_be_assigned(self):
        for place, name, word in PROPERTIES:
            found = vars(getattr(self.module(place), name))[word]
            self.assertIsInstance(found, property)
            self.assertIsNone(found.fset)

    def test_a_static_method(self):
        found = vars(self.module("bench").Bench)["replayed"]
        self.assertIsInstance(found, staticmethod)
        self.assertEqual(str(inspect.signature(found.__func__)), "(book, changes)")


if __name__ == "__main__":
    unittest.main()
