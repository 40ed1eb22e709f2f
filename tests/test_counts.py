"""Rests and sways with so much water, and what leads to a filling [9]."""

import unittest
from itertools import product
from math import prod

import oracle
from making import LISTS, many_times, some_filling, some_web
from odd import OddCase, STEPS, TWO, answer
from twotides.counts import ahead, gardens, rests, runners
from twotides.shapes import row_web, star_web
from twotides.webs import Web

ONE, TWOS = ((1, 1),), ((2, 1),)
SMALL = (ONE, TWOS, ((3, 2),), ((1, 1), (1, 1)), ((1, 1), (2, 1)), ((5, 2), (3, 1)))
APART = Web((1, 1, 1), ((0, 1, ONE),))


def one_web(rng, most=4, lists=SMALL):
    """A web that hangs together, of vessels of one width."""
    width, many = rng.choice((1, 1, 2)), rng.randint(1, most)
    ends = [(rng.randrange(k), k) for k in range(1, many)]
    ends += [tuple(sorted(rng.sample(range(many), 2))) for _ in range(rng.choice((0, 0, 1, 2)) if many > 1 else 0)]
    rng.shuffle(ends)
    scaled = [tuple(oracle.pair(oracle.value(each) / width) for each in rng.choice(lists)) for _ in ends]
    return Web((width,) * many, tuple((one, other, told) for (one, other), told in zip(ends, scaled)))


def with_sum(web, water, runs):
    """All fillings with so much water that come in question: each vessel has a pipe to one that is numbered less.

    A drop at which nothing runs is below the first threshold, or one step more where something runs elsewhere;
    one at which something runs is less than the step. A step is at most what all pipes at both ends let through.
    """
    rooms = [sum(len(told) for *ends, told in web.pipes if vessel in ends) for vessel in range(len(web.widths))]
    far, near = [], []
    for vessel in range(1, len(web.widths)):
        one, told = next((one, told) for one, other, told in web.pipes if other == vessel)
        step = rooms[one] + rooms[vessel] if runs else 0
        far.append(int(oracle.value(told[0]) * web.widths[0]) + step)
        near.append(one)
    for drops in product(*(range(-most, most + 1) for most in far)):
        filling = [0]
        for one, drop in zip(near, drops):
            filling.append(filling[one] + drop)
        first, left = divmod(water - sum(filling), len(filling))
        if left == 0:
            yield tuple(first + each for each in filling)


def is_rest(web, filling):
    return oracle.tick(web, filling, None) == filling


def is_runner(web, filling):
    return not is_rest(web, filling) and oracle.tick(web, oracle.tick(web, filling, None), None) == filling


def sources(web, high):
    """By fillings with waters from 0 to high those that lead to them, by trying all that come in question."""
    room = [sum(len(told) for *ends, told in web.pipes if vessel in ends) for vessel in range(len(web.widths))]
    near = [range(-more, high + more + 1) if width else (0,) for width, more in zip(web.widths, room)]
    found = {filling: [] for filling in product(*(range(high + 1) if width else (0,) for width in web.widths))}
    for earlier in product(*near):
        later = oracle.tick(web, earlier, None)
        if later in found:
            found[later].append(earlier)
    return found


class CountsCase(OddCase):
    def refuses_webs(self, call):
        """NotOne for webs that fall apart or have a sea, then UnlikeWidths, then NoNumber."""
        for web in (APART, Web((1, 1), ()), Web((0,), ()), Web((0, 0), ((0, 1, ONE),)), Web((1, 0), ((0, 1, ONE),)),
                    Web((1, 2, 0), ((0, 1, ONE), (1, 2, ONE))), Web((1, 2), ()), Web((12,) * 12, ())):
            for water in (0, None, True):
                self.refuses("NotOne", {}, call, web, water)
        for web in (Web((1, 2), ((0, 1, ONE),)), Web((3, 3, 12), ((0, 1, ONE), (0, 2, ((10 ** 6, 1),))))):
            for water in (0, None, True):
                self.refuses("UnlikeWidths", {}, call, web, water)
        self.refuses_all("NoNumber", oracle.whole, call, (TWO,), 3, ())
        for water in (None, True, "3", (3,), {}):
            self.refuses("NoNumber", {}, call, Web((1, 1), ((0, 1, ((10 ** 6, 1),)),)), water)
            self.refuses("NoNumber", {}, call, Web((12, 12), ((0, 1, ONE),)), water)


class RestsTest(CountsCase):
    def test_ordinary(self):
        self.assertEqual(rests(TWO, 4), [(2, 2)])
        self.assertEqual(rests(TWO, 5), [])
        self.assertEqual(rests(Web((1, 1), ((0, 1, TWOS),)), 5), [(2, 3), (3, 2)])
        self.assertEqual(rests(Web((1, 1), ((0, 1, TWOS),)), -5), [(-3, -2), (-2, -3)])
        self.assertEqual(rests(row_web(1, TWOS, 3), 3), [(0, 1, 2), (1, 1, 1), (2, 1, 0)])
        self.assertEqual(rests(Web((2, 2), ((0, 1, ONE),)), 4), [(2, 2)])
        self.assertEqual(rests(Web((3, 3), ((0, 1, ONE),)), 4), [(1, 3), (2, 2), (3, 1)])

    def test_one_vessel(self):
        for water in (0, 7, -7, 10 ** 39):
            self.assertEqual(rests(Web((5,), ()), water), [(water,)])

    def test_side_by_side_and_rings(self):
        both = Web((1, 1), ((0, 1, ((9, 1),)), (0, 1, TWOS)))
        self.assertEqual(rests(both, 6), [(3, 3)])
        self.assertEqual(rests(both, 7), [(3, 4), (4, 3)])
        ring = Web((1, 1, 1), ((0, 1, TWOS), (1, 2, TWOS), (0, 2, TWOS)))
        self.assertEqual(rests(ring, 4), [(1, 1, 2), (1, 2, 1), (2, 1, 1)])
        self.assertEqual(rests(ring, 3), [(1, 1, 1)])

    def test_by_trying_all(self):
        some = 0
        for rng in many_times(150):
            web = one_web(rng)
            for water in (rng.randint(-9, 9), rng.choice((-1000, 1000, 998))):
                due = sorted(filling for filling in with_sum(web, water, False) if is_rest(web, filling))
                self.assertEqual(rests(web, water), due, (web.widths, web.pipes, water))
                some += len(due) > 1
        self.assertGreater(some, 50)

    def test_far_waters(self):
        for water in (10 ** 39, -10 ** 39, 1000, -1000):
            first = water // 2
            self.assertEqual(rests(TWO, water), [(first, first)])

    def test_limits(self):
        def pair(threshold, *more):
            return Web((1, 1), ((0, 1, ((threshold, 1), (10 ** 6, 1))), *more))

        self.assertEqual(rests(pair(2500), 0), [(x, -x) for x in range(-1249, 1250)])
        self.assertEqual(len(rests(pair(2500), 1)), 2500)
        self.refuses("TooMany", {"most": 5000}, rests, pair(2501), 0)
        self.assertEqual(rests(pair(2500, (0, 1, ((10 ** 6, 1),))), 0), rests(pair(2500), 0))
        self.assertEqual(rests(pair(2, (0, 1, ((10 ** 6, 1),))), 4), [(2, 2)])
        self.refuses("TooMany", {"most": 5000}, rests, pair(10 ** 6, (0, 1, ONE)), 0)
        for tops, fine in (((2, 3, 500), False), ((2, 3, 167), True), ((36, 35, 1), True), ((36, 36, 1), False),
                           ((167, 3, 2), True), ((500, 3, 2), False)):
            web = Web((1,) * 4, tuple((k, k + 1, ((top, 1),)) for k, top in enumerate(tops)))
            self.assertEqual(prod(2 * top - 1 for top in tops) <= 5000, fine)
            self.assertEqual(answer(rests, web, 0)[0], "returned" if fine else "TooMany")
        # A ring's last pipe is none of the tree.
        last = Web((1, 1, 1), ((0, 1, ((30, 1),)), (1, 2, ((30, 1),)), (0, 2, ((10 ** 6, 1),))))
        self.assertEqual(len(rests(last, 0)),
                         len([1 for a, b in product(range(-29, 30), repeat=2) if (a - b) % 3 == 0]))
        self.refuses("TooMany", {"most": 5000}, rests, Web((2, 2), ((0, 1, ((2501, 2),)),)), 0)
        self.assertEqual(len(rests(Web((2, 2), ((0, 1, ((4999, 4),)),)), 0)), 2499)

    def test_order_of_errors(self):
        self.refuses_webs(rests)


class RunnersTest(CountsCase):
    def test_ordinary(self):
        self.assertEqual(runners(TWO, 5), [(2, 3), (3, 2)])
        self.assertEqual(runners(TWO, 4), [])
        self.assertEqual(runners(TWO, -5), [(-3, -2), (-2, -3)])
        self.assertEqual(runners(Web((1, 1), ((0, 1, ((1, 1), (1, 1))),)), 4), [(1, 3), (3, 1)])
        self.assertEqual(runners(Web((1, 1), ((0, 1, TWOS),)), 5), [])
        self.assertEqual(runners(Web((3,), ()), 5), [])

    def test_by_trying_all(self):
        some = 0
        for rng in many_times(100):
            web = one_web(rng, lists=SMALL[:5])
            if prod(web.widths) > 64 or prod(2 * len(told) + 1 for *_, told in web.pipes) > 5000:
                continue
            for water in (rng.randint(-9, 9), rng.choice((-1000, 1000, 997))):
                due = sorted(filling for filling in with_sum(web, water, True) if is_runner(web, filling))
                self.assertEqual(runners(web, water), due, (web.widths, web.pipes, water))
                some += len(due) > 2
        self.assertGreater(some, 50)

    def test_side_by_side_and_rings(self):
        for web in (Web((1, 1), ((0, 1, ONE), (0, 1, ((3, 1),)))), Web((1, 1), ((0, 1, ((3, 1),)), (0, 1, ONE))),
                    Web((1, 1, 1), ((0, 1, ONE), (1, 2, ONE), (0, 2, ONE))),
                    Web((1,) * 4, ((0, 1, TWOS), (1, 2, TWOS), (2, 3, TWOS), (0, 3, TWOS)))):
            for water in range(-4, 5):
                due = sorted(filling for filling in with_sum(web, water, True) if is_runner(web, filling))
                self.assertEqual(runners(web, water), due)

    def test_limit_of_the_widths(self):
        self.assertEqual(runners(row_web(2, ONE, 6), 0), [])
        self.assertEqual(runners(row_web(8, ONE, 2), 1), [])
        self.refuses("TooMany", {"most": 64}, runners, row_web(2, ONE, 7), 0)
        self.refuses("TooMany", {"most": 64}, runners, row_web(9, ONE, 2), 0)
        self.refuses("TooMany", {"most": 64}, runners, row_web(2, STEPS + STEPS[2:] * 3, 7), 0)

    def test_limit_of_the_flows(self):
        self.assertGreater(len(runners(row_web(1, ONE, 8), 0)), 100)
        self.refuses("TooMany", {"most": 5000}, runners, row_web(1, ONE, 9), 0)
        fives = ((9, 1), (9, 1))
        lists = (fives, fives, fives, ((9, 1),), ((9, 1),) * 6)
        star = Web((1,) * 6, tuple((0, k + 1, told) for k, told in enumerate(lists)))
        self.assertEqual(prod(2 * len(told) + 1 for told in lists), 4875)
        self.assertEqual(answer(runners, star, 0)[0], "returned")
        more = Web((1,) * 7, (*star.pipes, (0, 6, ONE)))
        self.refuses("TooMany", {"most": 5000}, runners, more, 0)

    def test_limit_of_the_tree(self):
        def row(threshold):
            return Web((1, 1, 1), ((0, 1, ONE), (1, 2, ((threshold, 1),))))

        found = runners(row(2501), 0)
        self.assertTrue(found)
        self.assertTrue(all(is_runner(row(2501), filling) and sum(filling) == 0 for filling in found))
        # The second pipe has 5000 drops below 2501 that stay so behind a step of 1, a third of them with this sum.
        self.assertEqual(sum(len(runners(row(2501), water)) for water in range(3)), 2 * 5000)
        self.refuses("TooMany", {"most": 5000}, runners, row(2502), 0)
        # Without a pattern that runs there are no such products.
        self.assertEqual(runners(Web((1, 1), ((0, 1, ((10 ** 6, 1),)),)), 0), [])
        aside = Web((1, 1), ((0, 1, ONE), (0, 1, ((10 ** 6, 1),))))
        self.assertEqual(runners(aside, 1), [(0, 1), (1, 0)])
        self.refuses("TooMany", {"most": 5000}, runners, Web((1, 1), aside.pipes[::-1]), 1)

    def test_order_of_errors(self):
        self.refuses_webs(runners)


class AheadTest(CountsCase):
    def test_ordinary(self):
        self.assertEqual(ahead(TWO, (2, 3)), [(1, 4), (3, 2)])
        self.assertEqual(ahead(TWO, (3, 2)), [(2, 3), (4, 1)])
        self.assertEqual(ahead(TWO, (2, 2)), [(1, 3), (2, 2), (3, 1)])
        self.assertEqual(ahead(Web((4, 0), ()), (9, 0)), [(9, 0)])
        self.assertEqual(ahead(Web((0, 1), ((0, 1, ONE),)), (0, 0)), [(0, -1), (0, 0), (0, 1)])
        self.assertEqual(ahead(Web((0, 1), ((0, 1, ONE),)), (0, -3)), [(0, -4)])

    def test_by_trying_all(self):
        for rng in many_times(150):
            web = some_web(rng, 4, (0, 1, 1, 2, 3), SMALL + LISTS[:3], 4)
            room = [sum(len(told) for *ends, told in web.pipes if k in ends) for k in range(len(web.widths))]
            filling = some_filling(rng, web, 6)
            if prod(2 * len(told) + 1 for *_, told in web.pipes) > 5000 or prod(2 * more + 1 for more in room) > 4000:
                continue
            near = [range(water - more, water + more + 1) if width else (0,)
                    for width, water, more in zip(web.widths, filling, room)]
            due = [earlier for earlier in product(*near) if oracle.tick(web, earlier, None) == filling]
            self.assertEqual(ahead(web, filling), due)
            self.assertTrue(due)

    def test_of_a_sway_and_of_what_comes_to_it(self):
        for web, one in ((TWO, (3, 2)), (row_web(1, ONE, 3), (1, 0, 0)), (star_web(1, 1, ONE, 3), (3, 0, 0, 0))):
            other = oracle.tick(web, one, None)
            if is_runner(web, one):
                self.assertIn(other, ahead(web, one))
                self.assertIn(one, ahead(web, other))

    def test_limit(self):
        far = row_web(1, ((9, 1),), 8)
        self.assertEqual(ahead(far, (0,) * 8), [(0,) * 8])
        self.assertEqual(ahead(row_web(12, ((1, 1),), 8), (6,) * 8), [(6,) * 8])
        self.refuses("TooMany", {"most": 5000}, ahead, row_web(1, ((9, 1),), 9), (0,) * 9)
        self.refuses("NoFilling", {}, ahead, row_web(1, ((9, 1),), 9), (0,) * 8)
        pipes = tuple((0, 1, ((1, 1),) * 6) for _ in range(3))
        self.assertEqual(ahead(Web((1, 1), pipes), (18, 0)), [(0, 18), (36, -18)])
        self.refuses("TooMany", {"most": 5000}, ahead, Web((1, 1), (*pipes, (0, 1, ONE))), (18, 0))

    def test_wrong_fillings(self):
        web = Web((1, 0, 2), ((0, 1, ONE), (0, 2, TWOS)))
        taken = self.refuses_all("NoFilling", lambda thing: oracle.right_filling(web, thing), ahead, (web,),
                                 (3, 0, -1), ())
        self.assertGreater(taken, 5)


class GardensTest(CountsCase):
    def test_there_is_never_one(self):
        tried = 0
        for rng in many_times(250):
            web = some_web(rng, 4, (0, 1, 1, 2, 3, 12), SMALL + LISTS[:5], 4)
            high = rng.randint(0, 3)
            room = [sum(len(told) for *ends, told in web.pipes if k in ends) for k in range(len(web.widths))]
            if prod(high + 1 + 2 * more for more in room) > 3000:
                continue
            found = sources(web, high)
            self.assertEqual(gardens(web, high), [filling for filling in sorted(found) if not found[filling]])
            tried += len(found)
        self.assertGreater(tried, 1000)

    def test_no_ahead_is_empty(self):
        for web in (TWO, row_web(2, ((1, 3), (1, 3), (2, 1)), 3), star_web(0, 3, STEPS, 2), Web((0, 0), ((0, 1, ONE),)),
                    Web((1, 1), ((0, 1, STEPS), (0, 1, ONE))), Web((3, 2, 1), ((0, 1, ONE), (1, 2, ONE), (0, 2, ONE)))):
            for filling in product(*(range(4) if width else (0,) for width in web.widths)):
                self.assertTrue(ahead(web, filling))
            self.assertEqual(gardens(web, 3), [])

    def test_each_answer_is_new(self):
        gardens(TWO, 1).append(0)
        self.assertEqual(gardens(TWO, 1), [])

    def test_limits(self):
        self.assertEqual(gardens(Web((3,), ()), 4999), [])
        self.refuses("TooMany", {"most": 5000}, gardens, Web((3,), ()), 5000)
        self.assertEqual(gardens(Web((0, 3, 0), ((0, 1, ONE),)), 4999), [])
        self.assertEqual(gardens(Web((0, 0), ()), 10 ** 39), [])
        self.assertEqual(gardens(Web((1,) * 12, ()), 1), [])
        self.refuses("TooMany", {"most": 5000}, gardens, Web((1,) * 12, ()), 2)
        self.assertEqual(gardens(Web((1,) * 12, ()), 0), [])
        self.assertEqual(gardens(row_web(1, ONE, 8), 0), [])
        self.refuses("TooMany", {"most": 5000}, gardens, row_web(1, ONE, 9), 0)
        self.assertEqual(gardens(TWO, 69), [])
        self.refuses("TooMany", {"most": 5000}, gardens, TWO, 70)

    def test_wrong_numbers(self):
        web = Web((0,), ())
        self.refuses_all("NoNumber", lambda thing: oracle.whole(thing, 0), gardens, (web,), 3, ())
        for wrong in (-1, True, None, "1", (1,), []):
            self.refuses("NoNumber", {}, gardens, row_web(1, ONE, 9), wrong)


if __name__ == "__main__":
    unittest.main()
