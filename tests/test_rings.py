"""Rings of vessels of one width [8.1]."""

import unittest
from itertools import product

import oracle
from making import many_times
from odd import OddCase, STEPS
from patterns_oracle import ways
from twotides.rings import ring_sway, ring_web, rings_that_run
from twotides.sways import is_sway
from twotides.webs import Web

ONE, TWOS = ((1, 1),), ((2, 1),)
SPANS = tuple(range(3, 13))


def whole_list(*tops):
    return tuple((top, 1) for top in tops)


def running(width, thresholds):
    """The numbers of vessels with which flows may stand round a ring: closed ways are counted, all 0 being one."""
    flows = range(-len(thresholds), len(thresholds) + 1)
    pairs = list(product(flows, repeat=2))
    may = {(*pair, then): bool(ways(thresholds, width, *pair, then)) for pair in pairs for then in flows}
    counts, found = {(pair, pair): 1 for pair in pairs}, []
    for many in range(1, 13):
        later = {}
        for (start, (ahead, ran)), number in counts.items():
            for then in flows:
                if may[ahead, ran, then]:
                    later[start, (ran, then)] = later.get((start, (ran, then)), 0) + number
        counts = later
        if many >= 3 and sum(number for (start, end), number in counts.items() if start == end) > 1:
            found.append(many)
    return tuple(found)


class RingWebTest(OddCase):
    def test_ordinary(self):
        self.assertEqual(ring_web(2, STEPS, 3), Web((2, 2, 2), ((0, 1, STEPS), (1, 2, STEPS), (0, 2, STEPS))))
        self.assertEqual(ring_web(1, ONE, 4), Web((1,) * 4, ((0, 1, ONE), (1, 2, ONE), (2, 3, ONE), (0, 3, ONE))))
        web = ring_web(12, STEPS + STEPS[2:] * 3, 12)
        self.assertEqual(web.widths, (12,) * 12)
        self.assertEqual([pipe[:2] for pipe in web.pipes], [(k, k + 1) for k in range(11)] + [(0, 11)])

    def test_wrong_things(self):
        def width(thing):
            return oracle.whole(thing, 1, 12)

        def many(thing):
            return oracle.whole(thing, 3, 12)

        for call in (ring_web, ring_sway):
            self.refuses_all("NoWidth", width, call, (), 3, (ONE, 4))
            self.refuses_all("NoList", oracle.right_list, call, (3,), STEPS, (4,))
            self.refuses_all("NoNumber", many, call, (3, ONE), 4, ())
            for wrong in (2, 13, 0, -3, True, None, "3", (3,)):
                self.refuses("NoNumber", {}, call, 1, ONE, wrong)
            self.refuses("NoWidth", {}, call, 0, (), 2)
            self.refuses("NoList", {}, call, 1, (), 2)
        self.refuses_all("NoWidth", width, rings_that_run, (), 3, (ONE,))
        self.refuses_all("NoList", oracle.right_list, rings_that_run, (3,), STEPS, ())
        for wrong in (0, 13, -1, True, None):
            self.refuses("NoWidth", {}, rings_that_run, wrong, None)


class RingsThatRunTest(OddCase):
    def test_named_lists(self):
        self.assertEqual(rings_that_run(1, ONE), SPANS)
        self.assertEqual(rings_that_run(1, TWOS), (4, 6, 8, 10, 12))
        self.assertEqual(rings_that_run(1, STEPS), SPANS[1:])
        self.assertEqual(rings_that_run(1, whole_list(3)), ())
        self.assertEqual(rings_that_run(3, ((1, 3),)), SPANS)
        self.assertEqual(rings_that_run(12, ((1, 2),)), ())
        self.assertEqual(rings_that_run(12, ((1, 7), (1, 3))), (4, 6, 8, 10, 12))
        self.assertEqual(rings_that_run(1, ((10 ** 6, 1),) * 3), ())

    def test_longer_lists(self):
        self.assertEqual(rings_that_run(1, whole_list(2, 4, 6, 8, 9)), (4, *SPANS[3:]))
        self.assertEqual(rings_that_run(1, whole_list(2, 5, 7, 8, 9, 11)), (4, 6, *SPANS[5:]))

    def test_twice_and_three_times_round(self):
        for width, thresholds in ((1, ONE), (1, TWOS), (2, ((1, 1), (2, 1), (9, 4))), (1, STEPS)):
            found = rings_that_run(width, thresholds)
            for many in found:
                for times in range(1, 12 // many + 1):
                    self.assertIn(many * times, found)

    def test_against_the_words(self):
        seen = set()
        for rng in many_times(60):
            width, many = rng.choice((1, 1, 2, 3, 12)), rng.choice((1, 2, 3, 3))
            tops = sorted(rng.randint(1, 6) for _ in range(many))
            thresholds = tuple(oracle.pair(oracle.Fraction(top, width)) for top in tops)
            found = rings_that_run(width, thresholds)
            self.assertEqual(found, running(width, thresholds), (width, thresholds))
            seen.add(found)
        self.assertGreater(len(seen), 2)

    def test_by_trying_fillings(self):
        for width, thresholds, many, high in ((1, ONE, 3, 3), (1, TWOS, 3, 5), (1, TWOS, 4, 4), (1, STEPS, 3, 8),
                                              (2, ((1, 1),), 3, 5), (1, whole_list(1, 4), 3, 6),
                                              (1, whole_list(3), 4, 4), (1, whole_list(2, 2), 3, 5)):
            web = ring_web(width, thresholds, many)
            some = any(oracle.tick(web, oracle.tick(web, (0, *more), None), None) == (0, *more)
                       and any(oracle.flows(web, (0, *more), None))
                       for more in product(range(-high, high + 1), repeat=many - 1))
            self.assertEqual(many in rings_that_run(width, thresholds), some, (width, thresholds, many))


class RingSwayTest(OddCase):
    def test_two_fillings_that_sway(self):
        for width, thresholds in ((1, ONE), (1, TWOS), (1, STEPS), (3, ((2, 3), (4, 3), (5, 3))),
                                  (12, ((1, 7), (1, 3))),
                                  (1, whole_list(3)), (2, whole_list(1, 1, 1)), (5, ((1, 9),)),
                                  (1, whole_list(2, 4, 6, 8, 9)), (1, whole_list(2, 5, 7, 8, 9, 11))):
            found = []
            for many in SPANS:
                told = ring_sway(width, thresholds, many)
                if told is not None:
                    found.append(many)
                    web = ring_web(width, thresholds, many)
                    self.assertIs(type(told), tuple)
                    one, other = told
                    self.assertNotEqual(one, other)
                    self.assertEqual((oracle.tick(web, one, None), oracle.tick(web, other, None)), (other, one))
                    self.assertTrue(is_sway(web, told))
            self.assertEqual(tuple(found), rings_that_run(width, thresholds))

    def test_none(self):
        self.assertIsNone(ring_sway(1, TWOS, 3))
        self.assertIsNone(ring_sway(1, STEPS, 3))
        self.assertIsNone(ring_sway(1, TWOS, 11))
        self.assertIsNotNone(ring_sway(1, TWOS, 12))


if __name__ == "__main__":
    unittest.main()
