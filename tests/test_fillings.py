"""Fillings, levels and drops [1.4]; openings, flows, ticks and nets [2.1]."""

import unittest

import oracle
from making import many_times, some_filling, some_opening, some_web
from odd import OddCase, STEPS, TWO
from twotides.fillings import drops, flows, levels, nets, tick
from twotides.webs import Web

ONE = ((1, 1),)
SEAS = Web((0, 2, 0, 3), ((0, 1, ONE), (0, 2, ONE), (1, 3, STEPS), (1, 3, ONE), (2, 3, ONE)))
FILLING = (0, -9, 0, 7)
LARGE = 10 ** 40 - 1


class LevelsTest(OddCase):
    def test_ordinary(self):
        self.assertEqual(levels(SEAS, FILLING), ((0, 1), (-9, 2), (0, 1), (7, 3)))
        self.assertEqual(drops(SEAS, FILLING), ((9, 2), (0, 1), (-41, 6), (-41, 6), (-7, 3)))
        self.assertEqual(levels(Web((4, 6), ()), (6, -6)), ((3, 2), (-1, 1)))
        self.assertEqual(drops(Web((4, 6), ()), (6, -6)), ())
        self.assertEqual(drops(Web((4, 6), ((0, 1, ONE),)), (6, 9)), ((0, 1),))

    def test_large_waters(self):
        self.assertEqual(levels(TWO, (LARGE, -LARGE)), ((LARGE, 1), (-LARGE, 1)))
        self.assertEqual(drops(TWO, (LARGE, -LARGE)), ((2 * LARGE, 1),))
        self.assertEqual(levels(Web((12,), ()), (LARGE,)), ((LARGE // 3, 4),))

    def test_against_the_words(self):
        for rng in many_times(300):
            web = some_web(rng, 12)
            filling = some_filling(rng, web)
            self.assertEqual(levels(web, filling), tuple(map(oracle.pair, oracle.levels(web, filling))))
            self.assertEqual(drops(web, filling), tuple(map(oracle.pair, oracle.drops(web, filling))))


class TicksTest(OddCase):
    def test_example(self):
        told = (flows(TWO, (5, 0), None), tick(TWO, (5, 0), None), tick(TWO, (5, 0), ()))
        self.assertEqual(told, ((1,), (4, 1), (5, 0)))

    def test_seas(self):
        self.assertEqual(flows(SEAS, FILLING, None), (1, 0, -3, -1, -1))
        self.assertEqual(tick(SEAS, FILLING, None), (0, -4, 0, 2))
        self.assertEqual(nets(SEAS, FILLING, None), (1, -5, -1, 5))

    def test_openings(self):
        self.assertEqual(flows(SEAS, FILLING, (0, 3)), (1, 0, 0, -1, 0))
        self.assertEqual(flows(SEAS, FILLING, (0, 1, 2, 3, 4)), flows(SEAS, FILLING, None))
        self.assertEqual(flows(SEAS, FILLING, ()), (0,) * 5)
        self.assertEqual(tick(SEAS, FILLING, (3,)), (0, -8, 0, 6))
        self.assertEqual(nets(SEAS, FILLING, (4,)), (0, 0, -1, 1))

    def test_no_pipes(self):
        web = Web((1, 0), ())
        for opening in (None, ()):
            self.assertEqual(flows(web, (3, 0), opening), ())
            self.assertEqual(tick(web, (3, 0), opening), (3, 0))
            self.assertEqual(nets(web, (3, 0), opening), (0, 0))
        self.refuses("NoOpening", {}, flows, web, (3, 0), (0,))

    def test_water_overshoots_below_the_mark(self):
        web = Web((1, 1), ((0, 1, ((1, 1),) * 6), (0, 1, ((1, 1),) * 6)))
        self.assertEqual(tick(web, (0, -1), None), (-12, 11))
        self.assertEqual(tick(web, (0, -1), (1,)), (-6, 5))

    def test_large_waters(self):
        self.assertEqual(tick(TWO, (LARGE, -LARGE), None), (LARGE - 1, 1 - LARGE))
        self.assertEqual(flows(Web((12, 0), ((0, 1, STEPS),)), (-LARGE, 0), None), (-3,))

    def test_all_flows_by_the_levels_at_the_beginning(self):
        row = Web((1, 1, 1), ((0, 1, ONE), (1, 2, ONE)))
        self.assertEqual(tick(row, (1, 0, 0), None), (0, 1, 0))
        self.assertEqual(tick(row, (2, 1, 0), None), (1, 1, 1))

    def test_against_the_words(self):
        for rng in many_times(500):
            web = some_web(rng, 8)
            filling, opening = some_filling(rng, web), some_opening(rng, web)
            self.assertEqual(flows(web, filling, opening), oracle.flows(web, filling, opening))
            self.assertEqual(tick(web, filling, opening), oracle.tick(web, filling, opening))
            self.assertEqual(nets(web, filling, opening), oracle.nets(web, filling, opening))


class WrongTest(OddCase):
    def test_wrong_fillings(self):
        def right(thing):
            return oracle.right_filling(SEAS, thing)

        for call in (levels, drops):
            self.refuses_all("NoFilling", right, call, (SEAS,), FILLING, ())
        for call in (flows, tick, nets):
            self.refuses_all("NoFilling", right, call, (SEAS,), FILLING, (None,))

    def test_named_wrong_fillings(self):
        for wrong in ((1, 1, 0, 1), (0, 1, -1, 1), (0, 1, 0), (0, 1, 0, 1, 0), (0, True, 0, 1), (False, 1, 0, 1),
                      [0, 1, 0, 1], (0, None, 0, 1), (0, "1", 0, 1), (0, (1, 1), 0, 1), None, ()):
            for call in (levels, drops):
                self.refuses("NoFilling", {}, call, SEAS, wrong)
            for call in (flows, tick, nets):
                self.refuses("NoFilling", {}, call, SEAS, wrong, None)

    def test_wrong_openings(self):
        def right(thing):
            return oracle.right_opening(SEAS, thing)

        for call in (flows, tick, nets):
            taken = self.refuses_all("NoOpening", right, call, (SEAS, FILLING), (0, 2, 4), ())
            self.assertGreater(taken, 10)

    def test_named_wrong_openings(self):
        for wrong in ((0, 0), (1, 0), (5,), (-1,), (True,), (0, True), [], [0], "", 0, False, {}, (None,), ((0,),)):
            for call in (flows, tick, nets):
                self.refuses("NoOpening", {}, call, SEAS, FILLING, wrong)

    def test_fillings_come_ahead_of_openings(self):
        for call in (flows, tick, nets):
            self.refuses("NoFilling", {}, call, SEAS, None, (9,))


if __name__ == "__main__":
    unittest.main()
