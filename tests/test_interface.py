"""The interface: each name in its file, with its arguments, each method in its class, values new."""

import inspect
import unittest
from importlib import import_module

from odd import TIGHT, TWO
from twotides.plays import Play

FUNCTIONS = {
    "lists": {"flow": 2, "spaced": 3, "rounded": 3},
    "webs": {"parts": 1, "is_ringless": 1, "renaming": 2},
    "shapes": {"row_web": 3, "star_web": 4, "full_web": 5, "narrowest": 1},
    "books": {"fault": 3, "sorts_of": 2},
    "fillings": {"levels": 2, "drops": 2, "flows": 3, "tick": 3, "nets": 3},
    "ledgers": {"square": 2, "tide": 2, "falls": 2},
}
CLASSES = {
    "webs": {"Web": {"__init__": 2, "__eq__": 1}},
    "books": {"Book": {"__init__": 2, "__eq__": 1}},
    "plays": {"Play": {"__init__": 2, "tick": 1, "now": 0, "log": 0, "ran": 0, "back": 1, "copy": 0, "trying": 1}},
}


class InterfaceTest(unittest.TestCase):
    def test_functions(self):
        for name, functions in FUNCTIONS.items():
            module = import_module(f"twotides.{name}")
            for told, many in functions.items():
                function = getattr(module, told)
                self.assertTrue(inspect.isfunction(function), told)
                self.assertEqual(function.__module__, module.__name__)
                self.assertEqual(len(inspect.signature(function).parameters), many, told)

    def test_classes(self):
        for name, classes in CLASSES.items():
            module = import_module(f"twotides.{name}")
            for told, methods in classes.items():
                made = getattr(module, told)
                self.assertEqual(made.__module__, module.__name__)
                for method, many in methods.items():
                    self.assertIn(method, vars(made))
                    self.assertEqual(len(inspect.signature(vars(made)[method]).parameters), many + 1, method)

    def test_kinds_of_values(self):
        lists, webs, shapes = (import_module(f"twotides.{name}") for name in ("lists", "webs", "shapes"))
        books, fillings, ledgers = (import_module(f"twotides.{name}") for name in ("books", "fillings", "ledgers"))
        one, play = ((1, 1),), Play(TWO, (5, 0))
        for kind, found in (
            (int, lists.flow(one, (1, 1))), (tuple, lists.spaced((1, 1), (1, 1), 2)), (tuple, lists.rounded(one, 1, 2)),
            (list, webs.parts(TWO)), (bool, webs.is_ringless(TWO)), (tuple, webs.renaming(TWO, TWO)),
            (webs.Web, shapes.row_web(1, one, 2)), (webs.Web, shapes.star_web(1, 1, one, 2)),
            (webs.Web, shapes.full_web(1, 1, one, 2, 2)), (tuple, shapes.narrowest(TWO)),
            (books.Book, shapes.narrowest(TWO)[0]), (tuple, shapes.narrowest(TWO)[1]),
            (tuple, books.fault(TIGHT, TWO, (0, 0))), (tuple, books.sorts_of(shapes.narrowest(TWO)[0], TWO)),
            (tuple, fillings.levels(TWO, (5, 0))), (tuple, fillings.drops(TWO, (5, 0))),
            (tuple, fillings.flows(TWO, (5, 0), None)), (tuple, fillings.tick(TWO, (5, 0), None)),
            (tuple, fillings.nets(TWO, (5, 0), None)), (tuple, ledgers.square(TWO, (5, 0))),
            (tuple, ledgers.tide(TWO, (5, 0))), (tuple, ledgers.falls(TWO, (5, 0))),
            (tuple, play.tick(None)), (tuple, play.now()), (list, play.log()), (int, play.ran()), (Play, play.copy()),
        ):
            self.assertIs(type(found), kind, found)

    def test_equal_calls_give_equal_answers_and_keep_their_arguments(self):
        webs, shapes = import_module("twotides.webs"), import_module("twotides.shapes")
        web = webs.Web((1, 1, 2), ((0, 2, ((1, 1),)), (1, 2, ((1, 2),))))
        before = web.widths, web.pipes
        self.assertEqual(shapes.narrowest(web), shapes.narrowest(web))
        self.assertEqual(webs.parts(web), webs.parts(web))
        self.assertEqual((web.widths, web.pipes), before)


if __name__ == "__main__":
    unittest.main()
