"""Square, tide and falls, and the first fact [2.2]."""

import unittest
from fractions import Fraction

import oracle
from making import many_times, some_filling, some_web
from odd import OddCase, STEPS, TWO
from twotides.fillings import flows, tick
from twotides.ledgers import falls, square, tide
from twotides.webs import Web

ONE = ((1, 1),)
LARGE = 10 ** 40 - 1


class LedgersTest(OddCase):
    def test_example(self):
        self.assertEqual((tide(TWO, (5, 0)), falls(TWO, (5, 0)), tide(TWO, (4, 1))), ((41, 2), ((6, 1),), (29, 2)))

    def test_square(self):
        self.assertEqual(square(Web((2, 0, 3), ()), (-3, 0, 4)), (59, 6))
        self.assertEqual(square(Web((0, 0), ()), (0, 0)), (0, 1))
        self.assertEqual(square(Web((1,), ()), (-LARGE,)), (LARGE ** 2, 1))
        self.assertEqual(square(Web((2, 2), ()), (1, 1)), (1, 1))

    def test_tide_below_at_and_above_a_rounded_threshold(self):
        web = Web((2, 3), ((0, 1, ((2, 5),)),))
        # The grain is 1/6, and 2/5 is rounded to 3/6.
        self.assertEqual([tide(web, filling) for filling in ((1, 0), (2, -1), (-1, 0), (2, 1))],
                         [(5, 12), (17, 12), (5, 12), (25, 12)])
        self.assertEqual(tide(web, (0, 1)), (1, 3))
        self.assertEqual(oracle.drops(web, (2, -1)), [Fraction(4, 3)])

    def test_tide_takes_off_for_each_threshold_and_each_pipe(self):
        sides = Web((1, 1), ((0, 1, STEPS), (0, 1, ((4, 1), (4, 1)))))
        self.assertEqual(tide(sides, (4, 0)), (16 - 4, 1))
        self.assertEqual(oracle.tide(sides, (4, 0)), Fraction(*tide(sides, (4, 0))))
        self.assertEqual(tide(sides, (4, 0)), tide(sides, (0, 4)))

    def test_without_pipes_and_with_pipes_between_seas(self):
        self.assertEqual((tide(Web((2,), ()), (3,)), falls(Web((2,), ()), (3,))), ((9, 2), ()))
        seas = Web((0, 0, 1), ((0, 1, ((1, 144),)), (1, 2, ONE)))
        self.assertEqual(tide(seas, (0, 0, 0)), (0, 1))
        self.assertEqual(falls(seas, (0, 0, 3))[0], (0, 1))
        self.assertEqual((tide(seas, (0, 0, 3)), tide(seas, (0, 0, 2))), ((13, 2), (5, 2)))
        self.assertEqual(falls(seas, (0, 0, 3))[1], (4, 1))

    def test_large_waters(self):
        self.assertEqual(tide(TWO, (LARGE, 0)), oracle.pair(oracle.tide(TWO, (LARGE, 0))))
        self.assertEqual(falls(TWO, (LARGE, -LARGE)), tuple(map(oracle.pair, oracle.falls(TWO, (LARGE, -LARGE)))))

    def test_against_the_words(self):
        for rng in many_times(300):
            web = some_web(rng)
            filling = some_filling(rng, web)
            self.assertEqual(square(web, filling), oracle.pair(oracle.square(web, filling)))
            self.assertEqual(tide(web, filling), oracle.pair(oracle.tide(web, filling)))
            self.assertEqual(falls(web, filling), tuple(map(oracle.pair, oracle.falls(web, filling))))

    def test_the_first_fact(self):
        none = some = 0
        for rng in many_times(150):
            web = some_web(rng, 5, (0, 1, 2, 3))
            filling = some_filling(rng, web, 12)
            for _ in range(8):
                behind = tick(web, filling, None)
                fallen = [Fraction(*part) for part in falls(web, filling)]
                self.assertEqual(Fraction(*tide(web, filling)) - Fraction(*tide(web, behind)), sum(fallen))
                now, then = flows(web, filling, None), flows(web, behind, None)
                for part, ran, runs in zip(fallen, now, then):
                    self.assertGreaterEqual(part, 0)
                    self.assertEqual(part == 0, runs == -ran)
                    none, some = none + (part == 0), some + (part > 0)
                filling = behind
        self.assertGreater(min(none, some), 300)

    def test_wrong_things(self):
        web = Web((0, 2, 3), ((0, 1, STEPS), (1, 2, ONE)))
        for call in (square, tide, falls):
            self.refuses_all("NoFilling", lambda thing: oracle.right_filling(web, thing), call, (web,), (0, -5, 8), ())
            for wrong in ((1, 0, 0), (0, 1), (0, True, 1), [0, 1, 1], None):
                self.refuses("NoFilling", {}, call, web, wrong)


if __name__ == "__main__":
    unittest.main()
