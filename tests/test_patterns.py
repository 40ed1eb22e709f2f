"""Patterns [6.1 to 6.3], and which pipes to shut [6.5, 6.6]."""

import unittest
from itertools import combinations, product

import oracle
import patterns_oracle
from making import many_times, some_web
from odd import OddCase, STEPS, TWO, answer, spoiled
from twotides.patterns import bar, bounds, calm_web, cheapest_shut, is_bar, least_shut, patterns, standing
from twotides.shapes import full_web, row_web, star_web
from twotides.sways import is_sway, sway
from twotides.webs import Web

ONE, TWOS = ((1, 1),), ((2, 1),)
LISTS = (ONE, TWOS, ((1, 2),), ((1, 3), (1, 1)), STEPS, ((3, 4), (3, 4)), ((1, 1), (3, 2)), ((3, 1),))
FEW = (ONE, TWOS, ((1, 2),), ((1, 3), (1, 1)), ((3, 4), (3, 4)))
FINE = (((1, 8),), ((1, 4),), ((1, 5), (1, 2)), ((1, 3),), ((1, 2),))
SEAS = Web((0, 2, 0, 3), ((0, 1, ONE), (0, 2, TWOS), (1, 3, STEPS), (1, 3, ONE), (2, 3, TWOS)))


def webs(times, most=4, widths=(0, 1, 1, 2, 3), lists=FEW, pipes=4, seed=1):
    return [some_web(rng, most, widths, lists, pipes) for rng in many_times(times, seed)]


def all_rests(web):
    return product(*(range(max(width, 1)) for width in web.widths))


class StandingTest(OddCase):
    def test_ordinary(self):
        for pattern in ((1,), (-1,)):
            filling = standing(TWO, pattern)
            self.assertTrue(patterns_oracle.stands(TWO, pattern, filling))
        self.assertIsNone(standing(Web((1, 1), ((0, 1, TWOS),)), (1,)))
        self.assertIsNone(standing(Web((1, 1), ((0, 1, ((1, 1), (1, 1))),)), (1,)))

    def test_what_runs_and_what_does_not(self):
        seen = {}
        for web in webs(250, lists=FEW + (STEPS,)):
            for pattern in patterns_oracle.all_patterns(web)[:120]:
                filling = standing(web, pattern)
                if filling is None:
                    self.assertFalse(patterns_oracle.runs(web, pattern), (web.widths, web.pipes, pattern))
                else:
                    self.assertTrue(patterns_oracle.stands(web, pattern, filling))
                    later = oracle.tick(web, filling, None)
                    self.assertIs(is_sway(web, (filling, later)), True)
                    self.assertNotEqual(filling, later)
                seen[filling is None] = seen.get(filling is None, 0) + 1
        self.assertGreater(min(seen.values()), 200)

    def test_rings_and_seas_and_wide_vessels(self):
        runs = 0
        for web in webs(160, 4, (0, 1, 2, 4, 8, 5), FINE, 6, 2):
            if patterns_oracle.widths_too_many(web):
                continue
            for pattern in patterns_oracle.all_patterns(web)[::5][:60]:
                filling = standing(web, pattern)
                self.assertEqual(filling is not None, patterns_oracle.runs(web, pattern))
                runs += filling is not None and patterns_oracle.stands(web, pattern, filling)
        self.assertGreater(runs, 30)

    def test_each_sway_has_a_pattern_that_runs(self):
        found = 0
        for rng in many_times(200):
            web = some_web(rng, 4, (0, 1, 2, 3), LISTS, 5)
            if patterns_oracle.widths_too_many(web):
                continue
            _, one, other = sway(web, tuple(rng.randint(-9, 9) if width else 0 for width in web.widths))
            if one != other:
                pattern = oracle.flows(web, one, None)
                self.assertEqual(oracle.flows(web, other, None), tuple(-ran for ran in pattern))
                self.assertTrue(patterns_oracle.stands(web, pattern, standing(web, pattern)))
                found += 1
        self.assertGreater(found, 40)

    def test_the_product_of_the_widths(self):
        for widths in ((8, 8), (4, 4, 4), (2,) * 6, (0, 8, 8), (1,) * 6 + (8, 8), (0,) * 6 + (12, 5), (11, 5)):
            web = Web(widths, ((0, 1, ((1, 8),)),))
            self.assertEqual(answer(standing, web, (1,))[0], "returned")
        for widths in ((11, 6), (5, 12, 2), (3, 11, 2), (2,) * 7, (0, 12, 12), (12,) * 12):
            web = Web(widths, ((0, 1, ONE),))
            self.refuses("TooMany", {"most": 64}, standing, web, (1,))
            self.refuses("NoPattern", {}, standing, web, (0,))

    def test_wrong_patterns(self):
        for wrong in ((0,), (2,), (-2,), (), (1, 1), [1], (True,), (None,), ((1,),), None, 1):
            self.refuses("NoPattern", {}, standing, TWO, wrong)
        self.refuses("NoPattern", {}, standing, Web((1, 1), ()), ())
        self.refuses("NoPattern", {}, standing, SEAS, (1, 1, 4, 0, 0))
        self.refuses("NoPattern", {}, standing, SEAS, (0,) * 5)
        self.refuses_all("NoPattern", lambda thing: patterns_oracle.right_pattern(SEAS, thing), standing,
                         (SEAS,), (1, 0, -3, 0, 1), ())


class BoundsTest(OddCase):
    def test_ordinary(self):
        self.assertEqual(bounds(TWO, (1,), (0, 0)), ((1, 1),))
        self.assertEqual(bounds(TWO, (-1,), (0, 0)), ((-1, -1),))
        self.assertEqual(bounds(Web((1, 1), ((0, 1, TWOS),)), (1,), (0, 0)), ((1, 0),))
        self.assertEqual(bounds(Web((1, 1, 1), ((0, 1, ONE), (1, 2, TWOS))), (1, 0), (0, 0, 0)), ((1, 1), (-1, 0)))

    def test_rests(self):
        web = Web((2, 3), ((0, 1, ((1, 6),)),))
        found = {rests: bounds(web, (1,), rests) for rests in all_rests(web)}
        self.assertEqual(found[0, 0], ((1, 0),))
        self.assertEqual(found[1, 1], ((0, 0),))
        self.assertEqual(found[1, 0], ((0, 0),))
        self.assertEqual(len(found), 6)

    def test_seas(self):
        both = Web((0, 0, 1), ((0, 1, ((5, 2),)), (0, 2, ONE), (1, 2, ((3, 1),))))
        self.assertEqual(bounds(both, (0, 1, 0), (0, 0, 0)), ((-2, 2), (1, 0), (-1, 2)))
        self.assertEqual(bounds(both, (0, 1, 1), (0, 0, 0)), ((-2, 2), (1, 1), (1, 0)))
        self.assertEqual(bounds(both, (1, 0, 0), (0, 0, 0)), ((1, 0), (0, 0), (-2, 2)))

    def test_side_by_side(self):
        web = Web((1, 1), ((0, 1, ONE), (0, 1, TWOS), (0, 1, ((3, 1),))))
        self.assertEqual(bounds(web, (1, 1, 0), (0, 0)), ((1, 3), (2, 2), (2, 2)))
        self.assertEqual(bounds(web, (1, 0, 0), (0, 0)), ((1, 1), (1, 1), (0, 2)))

    def test_great_thresholds(self):
        far = ((10 ** 6, 1), (10 ** 6, 1))
        self.assertEqual(bounds(Web((1, 0, 1), ((0, 1, far), (0, 2, ONE))), (0, 1), (0, 0, 0)),
                         ((2 - 10 ** 6, 10 ** 6 - 1), (1, 1)))
        self.assertEqual(bounds(Web((1, 1), ((0, 1, far),)), (1,), (0, 0)), ((1, 0),))

    def test_against_the_words(self):
        empty = full = 0
        for web in webs(150, 4, (0, 1, 2, 3, 4), LISTS):
            for pattern in patterns_oracle.all_patterns(web)[::7][:20]:
                for rests in list(all_rests(web))[::5][:6]:
                    found = bounds(web, pattern, rests)
                    self.assertEqual(found, patterns_oracle.bounds(web, pattern, rests))
                    empty, full = empty + ((1, 0) in found), full + ((1, 0) not in found)
        self.assertGreater(min(empty, full), 25)

    def test_wrong_things(self):
        pattern, rests = (1, 0, -3, 0, 1), (0, 1, 0, 2)
        for call, more in ((bounds, ()), (bar, ()), (is_bar, (None,))):
            self.refuses_all("NoPattern", lambda thing: patterns_oracle.right_pattern(SEAS, thing), call,
                             (SEAS,), pattern, (rests, *more))
            self.refuses_all("NoRests", lambda thing: patterns_oracle.right_rests(SEAS, thing), call,
                             (SEAS, pattern), rests, more)
            self.refuses("NoPattern", {}, call, SEAS, None, None, *more)
            self.refuses("NoPattern", {}, call, SEAS, (0,) * 5, rests, *more)
            for wrong in ((0, 2, 0, 2), (0, 1, 0, 3), (1, 1, 0, 2), (0, -1, 0, 2), (0, 1, 0), (0, 1, 0, 2, 0),
                          (0, True, 0, 2), [0, 1, 0, 2], None):
                self.refuses("NoRests", {}, call, SEAS, pattern, wrong, *more)


class BarTest(OddCase):
    def test_one_pipe_between_two_seas(self):
        web = Web((0, 0), ((0, 1, ONE),))
        self.assertEqual(bar(web, (1,), (0, 0)), ((0, -1),))
        self.assertIs(is_bar(web, (1,), (0, 0), ((0, -1),)), True)
        self.assertIs(is_bar(web, (1,), (0, 0), ((0, 1),)), False)
        self.assertIs(is_bar(web, (1,), (0, 0), ((0, -1), (0, -1), (0, 1))), True)

    def test_two_pipes_side_by_side(self):
        web = Web((1, 1), ((0, 1, ONE), (0, 1, ((3, 1),) * 2)))
        # The first lets its water run at a drop of 1 alone, the second lets nothing run up to 2.
        self.assertIsNone(bar(web, (1, 0), (0, 0)))
        tight = Web((1, 1), ((0, 1, ONE), (0, 1, ONE)))
        self.assertEqual(bounds(tight, (1, 0), (0, 0)), ((1, 1), (1, 0)))
        apart = Web((1, 1, 1), ((0, 1, ((2, 1),)), (0, 1, ONE), (0, 2, ((1, 2),)), (1, 2, ONE)))
        for pattern in patterns_oracle.all_patterns(apart):
            self.check(apart, pattern, (0, 0, 0))

    def test_a_sum_of_just_0_does_not_bar(self):
        self.assertIs(is_bar(TWO, (1,), (0, 0), ((0, 1), (0, -1))), False)
        self.assertIsNone(bar(TWO, (1,), (0, 0)))
        web = Web((1, 1), ((0, 1, TWOS),))
        self.assertIs(is_bar(web, (1,), (0, 0), ((0, 1), (0, -1))), True)

    def test_a_ring_through_several_seas(self):
        web = Web((0, 2, 3, 0), ((0, 1, ((1, 3),)), (1, 2, ((1, 6),)), (2, 3, ((1, 3),))))
        found = 0
        for pattern in patterns_oracle.all_patterns(web):
            for rests in all_rests(web):
                ring = self.check(web, pattern, rests)
                found += ring is not None and len(ring) == 3
        self.assertGreater(found, 0)

    def test_what_is_no_closed_way(self):
        web = Web((1, 1, 1), ((0, 1, TWOS), (1, 2, TWOS), (0, 2, TWOS)))
        told = (web, (1, 1, 1), (0, 0, 0))
        self.assertIs(is_bar(*told, ((0, -1), (0, 1))), True)
        self.assertIs(is_bar(*told, ((0, 1), (1, 1), (2, -1))), True)
        self.assertIs(is_bar(*told, ((1, 1), (2, -1), (0, 1))), True)
        for wrong in (((0, -1),), ((0, -1), (0, -1)), ((0, -1), (1, -1)), ((0, -1), (1, -1), (2, 1)), (),
                      ((0, -1), (2, 1), (1, 1)), ((0, 0), (0, 1)), ((0, 2), (0, -2)), ((3, -1), (3, 1)),
                      [(0, -1), (0, 1)], ([0, -1], [0, 1]), ((0, -1, 0), (0, 1)), ((0, -1), (False, True)), None):
            self.assertIs(is_bar(*told, wrong), False, wrong)

    def check(self, web, pattern, rests):
        told = dict(enumerate(patterns_oracle.bounds(web, pattern, rests)))
        ring = bar(web, pattern, rests)
        self.assertEqual(ring is not None, patterns_oracle.bars(web, told), (web.widths, web.pipes, pattern, rests))
        if ring is not None:
            self.assertTrue(patterns_oracle.is_ring_below_0(web, told, ring), ring)
            self.assertIs(is_bar(web, pattern, rests, ring), True)
            self.assertIs(is_bar(web, pattern, rests, list(ring)), False)
            self.assertIs(is_bar(web, pattern, rests, ring + ring), True)
        return ring

    def test_against_the_words(self):
        lengths = {}
        for web in webs(200, 4, (0, 1, 2, 3, 4), FEW, 6):
            for pattern in patterns_oracle.all_patterns(web)[::9][:12]:
                for rests in list(all_rests(web))[::5][:6]:
                    ring = self.check(web, pattern, rests)
                    lengths[ring and len(ring)] = True
        self.assertGreater(len(lengths), 3)

    def test_rings_of_many_pipes(self):
        lengths = {}
        lists = (((1, 3),), ((1, 2),), ((1, 6),), ((2, 3),), ((1, 4), (1, 2)))
        for rng in many_times(400):
            widths = tuple(rng.choice((0, 2, 3, 4, 4)) for _ in range(4))
            web = Web(widths, ((0, 1, rng.choice(lists)), (1, 2, rng.choice(lists)), (2, 3, rng.choice(lists)),
                               (0, 3, rng.choice(lists))))
            pattern = rng.choice(patterns_oracle.all_patterns(web))
            rests = tuple(rng.randrange(max(width, 1)) for width in widths)
            ring = self.check(web, pattern, rests)
            lengths[ring and len(ring)] = lengths.get(ring and len(ring), 0) + 1
        self.assertGreater(lengths[3] + lengths[4], 5)

    def test_a_pattern_runs_just_if_for_some_rests_no_ring_bars(self):
        seen = {}
        for web in webs(80, 3, (0, 1, 2, 3, 4), FEW + (((1, 3),), ((1, 4),)), 4, 3):
            for pattern in patterns_oracle.all_patterns(web)[:60]:
                free = any(bar(web, pattern, rests) is None for rests in all_rests(web))
                self.assertIs(standing(web, pattern) is not None, free)
                seen[free] = seen.get(free, 0) + 1
        self.assertGreater(min(seen.values()), 50)

    def test_wrong_things(self):
        rings = [(Web((1, 1), ((0, 1, TWOS),)), (1,), (0, 0), ((0, 1), (0, -1))),
                 (Web((0, 0, 1), ((0, 1, ONE), (0, 2, ONE))), (-1, 0), (0, 0, 0), ((0, -1), (1, 1), (1, -1)))]
        for web, pattern, rests, ring in rings:
            told = dict(enumerate(patterns_oracle.bounds(web, pattern, rests)))
            self.assertIs(is_bar(web, pattern, rests, ring), True)
            for other in spoiled(ring):
                due = patterns_oracle.is_ring_below_0(web, told, other)
                self.assertIs(is_bar(web, pattern, rests, other), due, other)


class PatternsTest(OddCase):
    def test_example(self):
        found = (patterns(TWO), calm_web(Web((1, 1, 1), ((0, 1, TWOS), (0, 2, TWOS)))))
        self.assertEqual(found, ([(-1,), (1,)], True))

    def test_without_pipes(self):
        self.assertEqual(patterns(Web((1, 2), ())), [])
        self.assertIs(calm_web(Web((0,), ())), True)

    def test_against_the_words(self):
        seen = {}
        for web in webs(120):
            due = patterns_oracle.patterns(web)
            self.assertEqual(patterns(web), due)
            self.assertIs(calm_web(web), not due)
            seen[not due] = seen.get(not due, 0) + 1
        self.assertGreater(min(seen.values()), 25)

    def test_just_the_flows_of_all_sways(self):
        found = 0
        for web in webs(60, 3, (0, 1, 2, 3), FEW, 3, 4):
            flows = set()
            # By the twelfth fact none of the levels need be further away; further ones bring nothing more.
            for filling in product(*(range(-5, 7) if width else (0,) for width in web.widths)):
                later = oracle.tick(web, filling, None)
                if later != filling and oracle.tick(web, later, None) == filling:
                    flows.add(oracle.flows(web, filling, None))
            self.assertEqual(patterns(web), sorted(flows))
            found += len(flows)
        self.assertGreater(found, 50)

    def test_a_calm_web_comes_to_rest(self):
        for rng in many_times(60):
            web = some_web(rng, 4, (0, 1, 2, 3), FEW + (((3, 1),),), 3)
            if not patterns_oracle.widths_too_many(web) and calm_web(web):
                _, one, other = sway(web, tuple(rng.randint(-20, 20) if width else 0 for width in web.widths))
                self.assertEqual(one, other)

    def test_limits(self):
        for call in (patterns, calm_web):
            for web in (Web((8, 8), ((0, 1, ONE),)), Web((0, 8, 8, 1), ((0, 1, ONE),))):
                self.assertEqual(answer(call, web)[0], "returned")
            for web in (Web((11, 6), ((0, 1, ONE),)), Web((11, 6), ()), Web((2,) * 7, ((0, 1, STEPS),) * 5)):
                self.refuses("TooMany", {"most": 64}, call, web)
            # All factors are odd, so no product is just 5000: 4875 and 5005 are next to it.
            self.refuses("TooMany", {"most": 5000}, call, self.sided(2, 3, 5, 6))
            self.refuses("TooMany", {"most": 5000}, call, self.sided(1, 1, 1, 1, 1, 1, 1, 1))
            self.refuses("TooMany", {"most": 5000}, call, Web((1,) * 2, ((0, 1, ((1, 1),) * 6),) * 36))
            for many in ((1, 2, 2, 2, 6), (4, 3, 3, 5), (6, 6, 6), (1, 1, 1, 1, 1, 1, 1), (3, 3, 5, 4)):
                self.assertEqual(answer(call, self.sided(*many))[0], "returned")

    def sided(self, *many):
        return Web((1, 1), tuple((0, 1, tuple((k + 2, 1) for k in range(each))) for each in many))

    def test_it_ends_in_good_time(self):
        for web in (Web((2,) * 6 + (0, 0), tuple((k, k + 1, ((1, 2),)) for k in range(7))), full_web(2, 2, ONE, 2, 3),
                    star_web(4, 1, ONE, 7), row_web(1, ((1, 2),), 8), Web((8, 8), ((0, 1, ((1, 8),)),) * 7)):
            self.assertEqual(patterns(web) == [], calm_web(web))

    def test_new_each_time(self):
        patterns(TWO).clear()
        self.assertEqual(len(patterns(TWO)), 2)


class ShutTest(OddCase):
    def due(self, web):
        good = []
        for many in range(len(web.pipes) + 1):
            for lot in combinations(range(len(web.pipes)), many):
                left = Web(web.widths, tuple(pipe for k, pipe in enumerate(web.pipes) if k not in lot))
                if not any(set(less) < set(lot) for less in good) and not patterns_oracle.patterns(left):
                    good.append(lot)
        return sorted(good)

    def test_a_calm_web(self):
        for web in (Web((1,), ()), Web((0, 0), ((0, 1, ONE),)), Web((1, 1, 1), ((0, 1, TWOS), (0, 2, TWOS)))):
            self.assertEqual(least_shut(web), [()])
            self.assertEqual(cheapest_shut(web, (10 ** 6,) * len(web.pipes)), (0, ()))

    def test_several_lots(self):
        web = Web((1, 1, 1), ((0, 1, ((3, 2),)), (0, 1, ((3, 2),)), (1, 2, ((5, 2),))))
        self.assertEqual(least_shut(web), [(0,), (1,)])
        self.assertEqual(cheapest_shut(web, (3, 2, 0)), (2, (1,)))
        self.assertEqual(cheapest_shut(web, (2, 3, 0)), (2, (0,)))
        mixed = Web((1, 1, 1), ((0, 1, TWOS), (0, 1, TWOS), (0, 1, ((3, 1),)), (1, 2, ((2, 1),))))
        self.assertEqual(least_shut(mixed), self.due(mixed))

    def test_against_the_words(self):
        sizes = {}
        for web in webs(120, 4, (0, 1, 1, 2), (((3, 2),), TWOS, ONE, ((3, 1),), ((2, 1), (2, 1))), 4, 5):
            found = least_shut(web)
            self.assertEqual(found, self.due(web))
            sizes[len(found)] = True
        self.assertGreater(len(sizes), 2)

    def test_the_cheapest(self):
        for rng in many_times(60):
            web = some_web(rng, 4, (0, 1, 1, 2), (((3, 2),), TWOS, ONE, ((2, 1), (2, 1))), 4)
            prices = tuple(rng.choice((0, 1, 2, 3, 10 ** 6)) for _ in web.pipes)
            price, lot = cheapest_shut(web, prices)
            self.assertEqual(price, min(sum(prices[pipe] for pipe in each) for each in self.due(web)))
            self.assertEqual(price, sum(prices[pipe] for pipe in lot))
            self.assertEqual(list(lot), sorted(set(lot)))
            left = Web(web.widths, tuple(pipe for k, pipe in enumerate(web.pipes) if k not in lot))
            self.assertEqual(patterns_oracle.patterns(left), [])

    def test_limits(self):
        six = Web((1, 1), ((0, 1, TWOS),) * 6)
        self.assertEqual(least_shut(six)[0], (0, 1, 2, 3, 4))
        self.assertEqual(cheapest_shut(six, (1, 2, 3, 4, 5, 0))[0], 10)
        seven, wide = Web((1, 1), ((0, 1, TWOS),) * 7), Web((11, 6), ((0, 1, TWOS),) * 7)
        for call, more in ((least_shut, ()), (cheapest_shut, ((0,) * 7,))):
            self.refuses("TooMany", {"most": 1000}, call, seven, *more)
            self.refuses("TooMany", {"most": 64}, call, wide, *more)
        # Next to 1000 are 975 and 1001.
        for sizes, word in (((1, 2, 2, 6), "returned"), ((3, 5, 6), "TooMany")):
            sided = Web((1, 1), tuple((0, 1, ((2, 1),) * size) for size in sizes))
            self.assertEqual(answer(least_shut, sided)[0], word)
            self.assertEqual(answer(cheapest_shut, sided, (0,) * len(sizes))[0], word)
        self.refuses("NoPrices", {}, cheapest_shut, seven, (0,) * 6)
        self.refuses("NoPrices", {}, cheapest_shut, wide, None)

    def test_wrong_prices(self):
        web = Web((1, 1), ((0, 1, TWOS), (0, 1, ONE)))
        self.assertEqual(cheapest_shut(web, (10 ** 6, 10 ** 6)), (10 ** 6, (1,)))
        for wrong in ((10 ** 6 + 1, 0), (-1, 0), (0,), (0, 0, 0), [0, 0], (True, 0), (None, 0), None):
            self.refuses("NoPrices", {}, cheapest_shut, web, wrong)

        def right(thing):
            return type(thing) is tuple and len(thing) == 2 and all(oracle.whole(p, 0, 10 ** 6) for p in thing)

        self.refuses_all("NoPrices", right, cheapest_shut, (web,), (3, 4), ())
        self.assertEqual(cheapest_shut(Web((1,), ()), ()), (0, ()))


if __name__ == "__main__":
    unittest.main()
