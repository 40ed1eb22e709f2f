"""The interface: each name in its file, with its arguments, each method in its class, values new."""

import inspect
import unittest
from importlib import import_module

from odd import TIGHT, TWO
from twotides.plays import Play

FUNCTIONS = {
    "lists": {"flow": 2, "spaced": 3, "rounded": 3},
    "webs": {"parts": 1, "is_ringless": 1, "renaming": 2},
    "shapes": {"row_web": 3, "star_web": 4, "full_web": 5, "narrowest": 1},
    "books": {"fault": 3, "sorts_of": 2},
    "fillings": {"levels": 2, "drops": 2, "flows": 3, "tick": 3, "nets": 3},
    "ledgers": {"square": 2, "tide": 2, "falls": 2},
    "sways": {"sway": 2, "after": 3, "latest": 2, "is_sway": 2, "basins": 2},
    "timetables": {"rounds": 3},
    "calm": {"room": 3, "breach": 1, "is_breach": 2, "calm": 1, "calm_singly": 1, "sway_web": 2, "loss": 1,
             "most_measures": 4, "costs": 5},
    "mending": {"widest": 4, "raised": 1, "mended": 2, "cheapest": 3, "greatest_cap": 2, "least_width": 2,
                "calm_joins": 2},
    "patterns": {"standing": 2, "bounds": 3, "bar": 3, "is_bar": 4, "calm_web": 1, "patterns": 1, "least_shut": 1,
                 "cheapest_shut": 2},
    "cases": {"case_tree": 1, "is_case_tree": 2},
    "hangs": {"hang_table": 1, "ringless_sway": 1, "is_hang_table": 2},
    "rows": {"row_count": 4, "shortest_row": 2},
    "rings": {"ring_web": 3, "ring_sway": 3, "rings_that_run": 2},
    "counts": {"rests": 2, "runners": 2, "ahead": 2, "gardens": 2},
    "foes": {"longest_play": 2, "longest_single": 2, "endless_play": 2, "endless_single": 2, "is_endless_play": 3,
             "is_endless_single": 3, "still_play": 2, "wakes": 2, "ends": 2},
    "seen": {"sights": 3, "fitted": 2, "clash": 2, "flows_seen": 3, "is_clash": 3},
    "strangers": {"refuted": 4, "read_off": 4, "is_refuted": 5, "led": 4, "stranger_end": 3},
    "texts": {"web_text": 1, "book_text": 1, "filling_text": 1, "log_text": 1},
    "reading": {"read_web": 1, "read_book": 1, "read_filling": 2, "read_log": 2},
}
CLASSES = {
    "webs": {"Web": {"__init__": 2, "__eq__": 1}},
    "books": {"Book": {"__init__": 2, "__eq__": 1}},
    "desks": {"Desk": {"__init__": 0, "tell": 1, "undoable": 0}},
    "plays": {"Play": {"__init__": 2, "tick": 1, "now": 0, "log": 0, "ran": 0, "back": 1, "copy": 0, "trying": 1}},
}


class InterfaceTest(unittest.TestCase):
    def test_functions(self):
        for name, functions in FUNCTIONS.items():
            module = import_module(f"twotides.{name}")
            for told, many in functions.items():
                function = getattr(module, told)
                self.assertTrue(inspect.isfunction(function), told)
                self.assertEqual(function.__module__, module.__name__)
                self.assertEqual(len(inspect.signature(function).parameters), many, told)

    def test_classes(self):
        for name, classes in CLASSES.items():
            module = import_module(f"twotides.{name}")
            for told, methods in classes.items():
                made = getattr(module, told)
                self.assertEqual(made.__module__, module.__name__)
                for method, many in methods.items():
                    self.assertIn(method, vars(made))
                    self.assertEqual(len(inspect.signature(vars(made)[method]).parameters), many + 1, method)

    def test_kinds_of_values(self):
        lists, webs, shapes = (import_module(f"twotides.{name}") for name in ("lists", "webs", "shapes"))
        books, fillings, ledgers = (import_module(f"twotides.{name}") for name in ("books", "fillings", "ledgers"))
        one, play = ((1, 1),), Play(TWO, (5, 0))
        for kind, found in (
            (int, lists.flow(one, (1, 1))), (tuple, lists.spaced((1, 1), (1, 1), 2)), (tuple, lists.rounded(one, 1, 2)),
            (list, webs.parts(TWO)), (bool, webs.is_ringless(TWO)), (tuple, webs.renaming(TWO, TWO)),
            (webs.Web, shapes.row_web(1, one, 2)), (webs.Web, shapes.star_web(1, 1, one, 2)),
            (webs.Web, shapes.full_web(1, 1, one, 2, 2)), (tuple, shapes.narrowest(TWO)),
            (books.Book, shapes.narrowest(TWO)[0]), (tuple, shapes.narrowest(TWO)[1]),
            (tuple, books.fault(TIGHT, TWO, (0, 0))), (tuple, books.sorts_of(shapes.narrowest(TWO)[0], TWO)),
            (tuple, fillings.levels(TWO, (5, 0))), (tuple, fillings.drops(TWO, (5, 0))),
            (tuple, fillings.flows(TWO, (5, 0), None)), (tuple, fillings.tick(TWO, (5, 0), None)),
            (tuple, fillings.nets(TWO, (5, 0), None)), (tuple, ledgers.square(TWO, (5, 0))),
            (tuple, ledgers.tide(TWO, (5, 0))), (tuple, ledgers.falls(TWO, (5, 0))),
            (tuple, play.tick(None)), (tuple, play.now()), (list, play.log()), (int, play.ran()), (Play, play.copy()),
        ):
            self.assertIs(type(found), kind, found)

    def test_kinds_of_values_of_sways_and_books(self):
        sways, calm, mending = (import_module(f"twotides.{name}") for name in ("sways", "calm", "mending"))
        thing, still = (0, (0, 0), (2, 1)), mending.raised(TIGHT)
        book = import_module("twotides.books").Book
        for kind, found in (
            (tuple, sways.sway(TWO, (5, 0))), (tuple, sways.after(TWO, (5, 0), 1)), (tuple, sways.latest(TWO, 1)),
            (bool, sways.is_sway(TWO, None)), (dict, sways.basins(TWO, 1)),
            (tuple, import_module("twotides.timetables").rounds(TWO, (5, 0), [None])),
            (tuple, calm.room(TIGHT, 0, 0)), (tuple, calm.breach(TIGHT)), (bool, calm.is_breach(TIGHT, thing)),
            (bool, calm.calm(TIGHT)), (bool, calm.calm_singly(TIGHT)), (tuple, calm.sway_web(TIGHT, thing)),
            (tuple, calm.loss(still)), (int, calm.most_measures(still, TWO.__class__((1,), ()), (0,), (5,))),
            (tuple, calm.costs(still, TWO.__class__((1,), ()), (0,), (5,), None)),
            (tuple, mending.widest(TIGHT, 0, 0, 2)), (book, still), (book, mending.mended(TIGHT, ((1,), ()))),
            (tuple, mending.cheapest(TIGHT, (1,), (1,))), (int, mending.greatest_cap(still, 0)),
            (int, mending.least_width(still, 0)), (list, mending.calm_joins(TIGHT, ((1, 1),))),
        ):
            self.assertIs(type(found), kind, found)

    def test_kinds_of_values_of_patterns_and_rows(self):
        patterns, cases, hangs, rows = (import_module(f"twotides.{name}")
                                        for name in ("patterns", "cases", "hangs", "rows"))
        one, still = ((1, 1),), TWO.__class__((1, 1), ((0, 1, ((2, 1),)),))
        calm = import_module("twotides.mending").raised(TIGHT)
        for kind, found in (
            (tuple, patterns.standing(TWO, (1,))), (tuple, patterns.bounds(TWO, (1,), (0, 0))),
            (tuple, patterns.bar(still, (1,), (0, 0))), (bool, patterns.is_bar(TWO, (1,), (0, 0), None)),
            (bool, patterns.calm_web(TWO)), (list, patterns.patterns(TWO)), (list, patterns.least_shut(TWO)),
            (tuple, patterns.cheapest_shut(TWO, (1,))), (tuple, cases.case_tree(still)),
            (bool, cases.is_case_tree(TWO, None)), (tuple, hangs.hang_table(calm)),
            (tuple, hangs.ringless_sway(TIGHT)), (bool, hangs.is_hang_table(TIGHT, None)),
            (int, rows.row_count(1, one, 2, 10)), (int, rows.shortest_row(1, one)),
        ):
            self.assertIs(type(found), kind, found)

    def test_kinds_of_values_of_rings_counts_and_foes(self):
        rings, counts, foes = (import_module(f"twotides.{name}") for name in ("rings", "counts", "foes"))
        one, still, round_play = ((1, 1),), TWO.__class__((1, 1), ((0, 1, ((2, 1),)),)), ((), ((0,), (0,)))
        for kind, found in (
            (TWO.__class__, rings.ring_web(1, one, 3)), (tuple, rings.ring_sway(1, one, 3)),
            (tuple, rings.rings_that_run(1, one)), (list, counts.rests(TWO, 4)), (list, counts.runners(TWO, 5)),
            (list, counts.ahead(TWO, (2, 3))), (list, counts.gardens(TWO, 1)), (int, foes.longest_play(still, (5, 0))),
            (int, foes.longest_single(still, (5, 0))), (tuple, foes.endless_play(TWO, (5, 0))),
            (tuple, foes.endless_single(TWO, (5, 0))), (bool, foes.is_endless_play(TWO, (1, 0), round_play)),
            (bool, foes.is_endless_single(TWO, (1, 0), round_play)), (tuple, foes.still_play(still, (5, 0))),
            (list, foes.wakes(TWO, (2, 2))), (list, foes.ends(TWO, (5, 0))),
        ):
            self.assertIs(type(found), kind, found)
        for play in (foes.endless_play(TWO, (5, 0)), foes.endless_single(TWO, (5, 0))):
            self.assertEqual([type(part) for part in play], [tuple, tuple])

    def test_kinds_of_values_of_strangers_and_texts(self):
        seen, strangers, texts, reading = (import_module(f"twotides.{name}")
                                           for name in ("seen", "strangers", "texts", "reading"))
        told, desk = [((1, 1), 1), ((2, 1), 0)], import_module("twotides.desks").Desk()
        for kind, found in (
            (list, seen.sights(TWO, (5, 0), 1)), (tuple, seen.sights(TWO, (5, 0), 1)[0]), (tuple, seen.fitted([], 1)),
            (tuple, seen.clash(told, 1)), (tuple, seen.flows_seen(TWO, (5, 0), (4, 1))),
            (bool, seen.is_clash(told, 1, (0, 1))), (tuple, strangers.refuted(lambda *levels: 7, 1, 1, 1)),
            (tuple, strangers.read_off(lambda *levels: 0, 1, 1, 1)),
            (bool, strangers.is_refuted(lambda *levels: 0, 1, 1, 1, None)),
            (list, strangers.led(TWO, (5, 0), lambda filling: None, 1)),
            (tuple, strangers.stranger_end(TWO, (5, 0), lambda filling: None)), (str, texts.web_text(TWO)),
            (str, texts.book_text(TIGHT)), (str, texts.filling_text((5, 0))), (str, texts.log_text([None])),
            (TWO.__class__, reading.read_web("widths 1\n")), (TIGHT.__class__, reading.read_book("sort 1 1\n")),
            (tuple, reading.read_filling(TWO, "5 0\n")), (list, reading.read_log(TWO, "all\n")),
            (str, desk.tell("names")), (int, desk.undoable()),
        ):
            self.assertIs(type(found), kind, found)

    def test_equal_calls_give_equal_answers_and_keep_their_arguments(self):
        webs, shapes = import_module("twotides.webs"), import_module("twotides.shapes")
        web = webs.Web((1, 1, 2), ((0, 2, ((1, 1),)), (1, 2, ((1, 2),))))
        before = web.widths, web.pipes
        self.assertEqual(shapes.narrowest(web), shapes.narrowest(web))
        self.assertEqual(webs.parts(web), webs.parts(web))
        self.assertEqual((web.widths, web.pipes), before)


if __name__ == "__main__":
    unittest.main()
